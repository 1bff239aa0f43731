/- 12. -/
import Derived.Test.YtgfmbkoieacgoaaGreatDoorW1
import Derived.Test.YtgfmbkoieacgoaaGreatDoorW8
set_option maxRecDepth 100000
namespace Go.Proofs.YtgfmbkoieacgoaaGreatDoor
open Go Go.RowKit Go.Proofs.Tryz
theorem Gn(w:World)(q:bu):Calls prog 137 #[.agg q.cells] w (Below0 w (.bool q.RF)):=by
 obtain⟨c,size,a,h,agg,k⟩:=q;obtain⟨r,b⟩:=Nm ((bu.mk c size a h agg k).RF);rw[<-b];simp only[bu.RF]at b;unfold bu.cells;by_cases u:size<1
 ·obtain rfl:r=false:=by rw[b,bfq (by omega)];rfl
  clear b;go_enter func137,ntmps137;go_wp2_with fail;go_ret;exact⟨rfl,(Below.refl _ w).alloc (bfx _) _⟩
 by_cases x:1073741824<size
 ·obtain rfl:r=false:=by rw[b,bfq (by omega)];rfl
  clear b;go_enter func137,ntmps137;go_wp2_with fail;go_ret;exact⟨rfl,(Below.refl _ w).alloc (bfx _) _⟩
 rw[bfr (show 1<=size/\size<=1073741824 by omega),bgw]at b
 by_cases e:c=2
 ·subst e;rw[if_pos rfl]at b;by_cases d:a<1
  ·obtain rfl:r=false:=by rw[b,bfq (by omega)]
   clear b;have n:decide ((1:Int)<=a)=false:=bfq (by omega)
   go_enter func137,ntmps137;go_wp2_with fail;go_ret;exact⟨rfl,(Below.refl _ w).alloc (bfx _) _⟩
  have n:decide ((1:Int)<=a)=true:=bfr (by omega)
  by_cases y:size<a
  ·obtain rfl:r=false:=by rw[b,bfq (by omega)]
   clear b;have o:decide (a<=size)=false:=bfq (by omega)
   go_enter func137,ntmps137;go_wp2_with fail;go_ret;exact⟨rfl,(Below.refl _ w).alloc (bfx _) _⟩
  have o:decide (a<=size)=true:=bfr (by omega)
  by_cases z:16*a<size
  ·obtain rfl:r=false:=by rw[b,bfq (by omega)]
   clear b;have d2:decide (size<=16*a)=false:=bfq (by omega)
   go_enter func137,ntmps137;go_wp2_with fail;go_ret;exact⟨rfl,(Below.refl _ w).alloc (bfx _) _⟩
  obtain rfl:r=true:=by rw[b,bfr (by omega)]
  clear b;have d2:decide (size<=16*a)=true:=bfr (by omega)
  go_enter func137,ntmps137;go_wp2_with fail;go_ret;exact⟨rfl,(Below.refl _ w).alloc (bfx _) _⟩
 rw[if_neg e]at b;have m:(c==2)=false:=by simpa using e
 by_cases j:c=1
 ·subst j;clear e m;by_cases d:a=0
  ·subst d;obtain rfl:r=true:=by rw[b];rfl
   clear b;go_enter func137,ntmps137;go_wp2_with fail;go_ret;exact⟨rfl,(Below.refl _ w).alloc (bfx _) _⟩
  obtain rfl:r=false:=by rw[b,bfq (by omega)]
  have p:(a==0)=false:=by simpa using d
  clear b d;go_enter func137,ntmps137;go_wp2_with fail;go_ret;exact⟨rfl,(Below.refl _ w).alloc (bfx _) _⟩
 have s:(c==1)=false:=by simpa using j
 by_cases l:c=3
 ·subst l;clear e m j s;by_cases d:a=0
  ·subst d;obtain rfl:r=true:=by rw[b];rfl
   clear b;go_enter func137,ntmps137;go_wp2_with fail;go_ret;exact⟨rfl,(Below.refl _ w).alloc (bfx _) _⟩
  obtain rfl:r=false:=by rw[b,bfq (by omega)]
  have p:(a==0)=false:=by simpa using d
  clear b d;go_enter func137,ntmps137;go_wp2_with fail;go_ret;exact⟨rfl,(Below.refl _ w).alloc (bfx _) _⟩
 have D:(c==3)=false:=by simpa using l
 obtain rfl:r=false:=by rw[b,bfq (by omega)]
 clear b j e l;go_enter func137,ntmps137;go_wp2_with fail;go_ret;exact⟨rfl,(Below.refl _ w).alloc (bfx _) _⟩
theorem BM(w:World)(q:bu):Calls prog 138 #[.agg q.cells] w (Below0 w (.bool q.KH)):=by
 obtain⟨d,size,b,e,agg,k⟩:=q;obtain⟨r,a⟩:=Nm ((bu.mk d size b e agg k).KH);rw[<-a];simp only[bu.KH]at a;unfold bu.cells;by_cases c:agg=6
 ·subst c;rw[if_pos rfl]at a;by_cases m:k<1
  ·obtain rfl:r=false:=by rw[a,bfq (by omega)]
   clear a;have h:decide ((1:Int)<=k)=false:=bfq (by omega)
   go_enter func138,ntmps138;go_wp2_with fail;go_ret;exact⟨rfl,(Below.refl _ w).alloc (bfx _) _⟩
  have h:decide ((1:Int)<=k)=true:=bfr (by omega)
  by_cases n:8<k
  ·obtain rfl:r=false:=by rw[a,bfq (by omega)]
   clear a;have j:decide (k<=(8:Int))=false:=bfq (by omega)
   go_enter func138,ntmps138;go_wp2_with fail;go_ret;exact⟨rfl,(Below.refl _ w).alloc (bfx _) _⟩
  obtain rfl:r=true:=by rw[a,bfr (by omega)]
  clear a;have j:decide (k<=(8:Int))=true:=bfr (by omega)
  go_enter func138,ntmps138;go_wp2_with fail;go_ret;exact⟨rfl,(Below.refl _ w).alloc (bfx _) _⟩
 rw[if_neg c]at a;have o:(agg==6)=false:=by simpa using c
 by_cases m:agg<1
 ·obtain rfl:r=false:=by rw[a,bfq (by omega)]
  clear a c;have h:decide ((1:Int)<=agg)=false:=bfq (by omega)
  go_enter func138,ntmps138;go_wp2_with fail;go_ret;exact⟨rfl,(Below.refl _ w).alloc (bfx _) _⟩
 have h:decide ((1:Int)<=agg)=true:=bfr (by omega)
 by_cases n:7<agg
 ·obtain rfl:r=false:=by rw[a,bfq (by omega)]
  clear a c;have j:decide (agg<=(7:Int))=false:=bfq (by omega)
  go_enter func138,ntmps138;go_wp2_with fail;go_ret;exact⟨rfl,(Below.refl _ w).alloc (bfx _) _⟩
 have j:decide (agg<=(7:Int))=true:=bfr (by omega)
 by_cases l:k=0
 ·subst l;obtain rfl:r=true:=by rw[a,bfr (by omega)]
  clear a c;go_enter func138,ntmps138;go_wp2_with fail;go_ret;exact⟨rfl,(Below.refl _ w).alloc (bfx _) _⟩
 obtain rfl:r=false:=by rw[a,bfq (by omega)]
 have p:(k==0)=false:=by simpa using l
 clear a c l;go_enter func138,ntmps138;go_wp2_with fail;go_ret;exact⟨rfl,(Below.refl _ w).alloc (bfx _) _⟩
theorem P8(w:World)(q:bu):∀w',Below (w.alloc (.cells q.cells 23)).heap.size (w.alloc (.cells q.cells 23)) w'->∀i v,q.cells[i]? =some v->w'.cell? ⟨w.heap.size,i,none⟩=some v:=by
 intro w' b i v c;have a:=bg5 w (.cells q.cells 23);rw[cell_of_row w' _ i _ _ _ ((b.block _ (Array.getElem?_eq_some_iff.1 a).1).trans a)];exact c
theorem kS(w:World)(q:bu):Calls prog 91 #[.agg q.cells] w (Below0 w (.bool q.rightB)):=by
 obtain⟨m,b⟩:=Nm (w.alloc (.cells q.cells 23));have x:Hid (Bw w m):=by rw[b];exact(Below.refl _ w).alloc (bfx _) _
 have c:Hid (∀n,Bw m n->∀i v,q.cells[i]? =some v->n.cell? ⟨w.heap.size,i,none⟩=some v):=by rw[b];exact Lh (P8 w q)
 have s:=Lh (Gn m q);have y:Hid (∀n,Calls prog 138 #[.agg q.cells] n (Below0 n (.bool q.KH))):=Lh (λn=>BM n q);obtain⟨r,j⟩:=Nm (q.rightB);rw[<-j];obtain⟨E,o⟩:=Nm (q.RF);obtain⟨F,p⟩:=Nm (q.KH);rw[bu.rightB,<-o,<-p]at j;rw[<-o]at s;rw[<-p]at y;clear o p;obtain⟨D,size,z,a,agg,k⟩:=q;unfold bu.cells at b c s y ⊢;simp only at j;have c0:=c.out m Br 0 _ rfl;have c1:=c.out m Br 1 _ rfl;have c2:=c.out m Br 2 _ rfl;have c3:=c.out m Br 3 _ rfl;have c4:=c.out m Br 4 _ rfl;have u:=c.out m Br 5 _ rfl
 cases E with
 | false=>
  obtain rfl:r=false:=by rw[j];rfl
  clear j;go_enter func91,ntmps91;go_upto_region 1 with fail;rw[<-b];clear b;go_wp2_with fail;refine s.out.mono ?_;rintro e l ⟨rfl,h⟩;have d:=Lh h;clear h c0 c1 c2 c3 c4 u;dsimp only;go_wp2_with fail;go_ret;exact⟨rfl,Tb x.out d.out⟩
 | true=>
  rw[bgw]at j;by_cases L:a<0
  ·obtain rfl:r=false:=by rw[j,bfq (by omega)];rfl
   clear j;have I:decide ((0:Int)<=a)=false:=bfq (by omega)
   go_enter func91,ntmps91;go_upto_region 1 with fail;rw[<-b];clear b;go_wp2_with fail;refine s.out.mono ?_;rintro e l ⟨rfl,h⟩;have d:=Lh h;clear h c0 c1 c2 c3 c4 u;have c3:=c.out l d.out 3 _ rfl;dsimp only;go_wp2_with fail;go_ret;exact⟨rfl,Tb x.out d.out⟩
  have I:decide ((0:Int)<=a)=true:=bfr (by omega)
  by_cases M:1073741824<a
  ·obtain rfl:r=false:=by rw[j,bfq (by omega)];rfl
   clear j;have J:decide (a<=(1073741824:Int))=false:=bfq (by omega)
   go_enter func91,ntmps91;go_upto_region 1 with fail;rw[<-b];clear b;go_wp2_with fail;refine s.out.mono ?_;rintro e l ⟨rfl,h⟩;have d:=Lh h;clear h c0 c1 c2 c3 c4 u;have c3:=c.out l d.out 3 _ rfl;dsimp only;go_wp2_with fail;go_ret;exact⟨rfl,Tb x.out d.out⟩
  have J:decide (a<=(1073741824:Int))=true:=bfr (by omega)
  rw[bfr (show 0<=a/\a<=1073741824 by omega),bgw]at j
  obtain rfl:r=F:=j;go_enter func91,ntmps91;go_upto_region 1 with fail;rw[<-b];clear b;go_wp2_with fail;refine s.out.mono ?_;rintro e l ⟨rfl,h⟩;have d:=Lh h;clear h c0 c1 c2 c3 c4 u;have c0:=c.out l d.out 0 _ rfl;have c1:=c.out l d.out 1 _ rfl;have c2:=c.out l d.out 2 _ rfl;have c3:=c.out l d.out 3 _ rfl;have c4:=c.out l d.out 4 _ rfl;have u:=c.out l d.out 5 _ rfl;dsimp only;go_wp2_with fail;refine(y.out l).mono ?_;rintro e N ⟨rfl,h⟩;have K:=Lh (Tb d.out h);clear h c0 c1 c2 c3 c4 u;dsimp only;go_wp2_with fail;go_ret;exact⟨rfl,Tb x.out K.out⟩
open Go Go.RowKit Go.Proofs.Tryz
def pM:List (BitVec 8)->List (BitVec 8) × List (BitVec 8)
 | []=>([],[])
 | c::r=>if c=32 then ([],r)else (c::(pM r).1,(pM r).2)
theorem Jj:∀s,(pM s).1.length<=s.length/\(pM s).2.length<=s.length
 | []=>⟨bfx _,bfx _⟩
 | c::r=>by
  have:=Jj r;unfold pM
  split
  ·exact⟨bgi _,Nat.le_succ _⟩
  simp only[bgy];omega
theorem Dp(a r:List (BitVec 8))(h:∀c∈a,c≠32):pM (a++32::r)=(a,r):=by
 induction a with
 | nil=>simp[pM]
 | cons c a ih=>
  rw[List.cons_append,pM,if_neg (h c (by simp)),ih λd b=>h d (by simp[b])]
theorem Qg(a:List (BitVec 8))(h:∀c∈a,c≠32):pM a=(a,[]):=by
 induction a with
 | nil=>rfl
 | cons c a ih=>
  rw[pM,if_neg (h c (by simp)),ih λd b=>h d (by simp[b])]
theorem Bc:∀s:List (BitVec 8),(∃a r,s=a++32::r/\(∀c∈a,c≠32))∨(∀c∈s,c≠32)
 | []=> .inr (by simp)
 | c::r=>by
  by_cases h:c=32
  ·exact .inl ⟨[],r,by rw[h];rfl,by simp⟩
  rcases Bc r with⟨a,t,rfl,e⟩ | j
  ·exact .inl ⟨c::a,t,rfl,λd b=>by rcases List.mem_cons.1 b with rfl | b;exact h;exact e d b⟩
  exact .inr λd b=>by rcases List.mem_cons.1 b with rfl | b;exact h;exact j d b
theorem VU {a:List (BitVec 8)}(h:∀c∈a,c≠32):noBlank (lvB a):=by
 intro c d e;obtain⟨x,b,rfl⟩:=List.mem_map.1 d;refine h x b (BitVec.eq_of_toNat_eq ?_);have j:(UInt8.ofNat x.toNat).toNat=32:=by rw[e];rfl
 have b:=x.isLt;have k:(UInt8.ofNat x.toNat).toNat=x.toNat:=by
  rw[UInt8.toNat_ofNat'];exact Nat.mod_eq_of_lt b
 rw[<-k,j];rfl
theorem WE(s:List (BitVec 8)):(Lib.cut (lvB s) [32]).1=lvB (pM s).1/\(Lib.cut (lvB s) [32]).2.1=lvB (pM s).2:=by
 rcases Bc s with⟨a,r,rfl,b⟩ | c
 ·rw[Dp a r b,lvB_append];have e:lvB (32::r)=32::lvB r:=rfl;have d:=index_text (lvB a) (lvB r) (VU b);rw[e];unfold Lib.cut;rw[d,if_pos (by omega)]
  simp
 rw[Qg s c];unfold Lib.cut;rw[index_blank _ (VU c),if_neg (by omega)]
 exact⟨rfl,rfl⟩
def Xg(s:List (BitVec 8)):Bool:=(Lib.cut (lvB s) [32]).2.2
def yP(w:World):Prop:=∃m,w.cell? ⟨1,0,none⟩=some (.int .i64 m)
theorem yP.below {w w':World}(h:yP w)(a:Bw w w'):yP w':=by
 obtain⟨m,h⟩:=h;exact⟨m,(a.cell (block_lt_of_cell h)).trans h⟩
theorem TQ(w:World)(s:List (BitVec 8))(k:s.length<=1000000)(b:yP w):
  Calls prog 111 #[Sv s,.string ⟨#[32]⟩] w λe w'=>e=.returned (.tuple #[Sv (pM s).1,Sv (pM s).2,.bool (Xg s)])/\∃n,w'=w.drewN n:=by
 obtain⟨m,c⟩:=b;have a:(⟨(lvB s).toArray⟩:ByteArray).size=s.length:=by
  show(lvB s).toArray.size=_;rw[List.size_toArray,lvB_length]
 have h:=Tryz.strings_Cut ⟨(lvB s).toArray⟩ ⟨#[32]⟩ m w (by rw[a];omega) c
 rw[<-Sv_lv]at h;obtain⟨d,j⟩:=WE s;rw[show(⟨(lvB s).toArray⟩:ByteArray).data.toList=lvB s from rfl,show(⟨#[32]⟩:ByteArray).data.toList=[32]from rfl,d,j,<-Sv_lv,<-Sv_lv]at h;exact h
theorem MV:(prog.info? 23).map (·.size)=some 6:=by kernel_rfl
theorem QX(q:bu):q.cells.all (·.oneCell')=true:=by
 rw[Array.all_eq_true'];intro v a;simp only[bu.cells,List.mem_toArray,bf2,bf9,or_false]at a;rcases a with rfl | rfl | rfl | rfl | rfl | rfl <;> rfl
theorem results_cell_row {P:Program} {e:Func} {p:Tmp} {ty:TypeId}(h:e.results=#[.cell p ty])(a:Array Value)(w:World)(g:Nat)(t:TypeId)(b:Array Value)(j:Nat × Nat)(d:TypeDesc)
  (k:a.getD p undef=.pointer (some ⟨g,0,none⟩)) (l:w.heap[g]? =some (.cells b t j))
  (m:P.underlying ty=some d) (n:(match d with | .struct _ | .array _ _=>true | _=>false)=true) (o:(P.info? ty).map (·.size)=some b.size):
  (results e a).run P w=.ok (.agg b) w:=by
 have c:a[p]?.getD undef=.pointer (some ⟨g,0,none⟩):=by simpa using k
 simp[results,h,c,asAddr,run_loadVar_row w g t ty b j d l m n o]
theorem bI {P:Program} {e:Func} {p u:Tmp} {ty:TypeId}(h:e.results=#[.cell p ty,.tmp u])(a:Array Value)(w:World)(g:Nat)(t:TypeId)(b:Array Value)(j:Nat × Nat)(d:TypeDesc)
  (k:a.getD p undef=.pointer (some ⟨g,0,none⟩)) (l:w.heap[g]? =some (.cells b t j))
  (m:P.underlying ty=some d) (n:(match d with | .struct _ | .array _ _=>true | _=>false)=true) (o:(P.info? ty).map (·.size)=some b.size):
  (results e a).run P w=.ok (.tuple #[.agg b,a.getD u undef]) w:=by
 have c:a[p]?.getD undef=.pointer (some ⟨g,0,none⟩):=by simpa using k
 simp[results,h,c,asAddr,run_loadVar_row w g t ty b j d l m n o]
def dB(w:World)(g:Nat)(x:bu):Prop:=w.heap[g]? =some (.cells x.cells 23 (0,0))
theorem dB.below {w w':World} {g:Nat} {x:bu}(h:dB w g x)(a:Bw w w'):dB w' g x:=(a.block _ (Array.getElem?_eq_some_iff.1 h).1).trans h
theorem dB.cell {w:World} {g:Nat} {x:bu}(h:dB w g x)(i:Nat) {v:Value}(a:x.cells[i]? =some v):w.cell? ⟨g,i,none⟩=some v:=by
 rw[cell_of_row _ _ _ _ _ _ h];exact a
theorem dB.lt {w:World} {g:Nat} {x:bu}(h:dB w g x):g<w.heap.size:=(Array.getElem?_eq_some_iff.1 h).1
def D6(w:World)(g:Nat)(kind size slide late agg k:Int):Prop:=
 w.cell? ⟨g,0,none⟩=some (.int .i64 kind)/\w.cell? ⟨g,1,none⟩=some (.int .i64 size)/\w.cell? ⟨g,2,none⟩=some (.int .i64 slide)/\w.cell? ⟨g,3,none⟩=some (.int .i64 late)/\w.cell? ⟨g,4,none⟩=some (.int .i64 agg)/\w.cell? ⟨g,5,none⟩=some (.int .i64 k)
theorem dB.d6 {w:World} {g:Nat} {x:bu}(h:dB w g x):D6 w g x.kind x.size x.slide x.late x.agg x.k:=⟨h.cell 0 rfl,h.cell 1 rfl,h.cell 2 rfl,h.cell 3 rfl,h.cell 4 rfl,h.cell 5 rfl⟩
theorem GG(w:World)(x:bu):dB ((w.alloc (Obj.cells #[.int .i64 0,.int .i64 0,.int .i64 0,.int .i64 0,.int .i64 0,.int .i64 0] 23)).setRow w.heap.size x.cells) w.heap.size x/\
  Bw w ((w.alloc (Obj.cells #[.int .i64 0,.int .i64 0,.int .i64 0,.int .i64 0,.int .i64 0,.int .i64 0] 23)).setRow w.heap.size x.cells):=
 ⟨setRow_heap _ _ _ _ _ _ (bg5 w _),((Below.refl _ w).alloc (bfx _) _).trans ⟨rfl,rfl,rfl,by simp[World.setRow],λi a=>setRow_other _ _ _ _ (by omega)⟩⟩
structure bf where
 key:List (BitVec 8)
 lo:Int
 hi:Int
deriving DecidableEq
def bF:bf:=⟨[],0,0⟩
def bf.cells(x:bf):Array Value:=#[Sv x.key,.int .i64 x.lo,.int .i64 x.hi]
def bf.rightB(x:bf):Bool:=nameB x.key && decide (0<=x.lo/\x.lo<=1099511627776/\x.lo<x.hi/\x.hi<=4398046511104)
def kC:List (BitVec 8):=[46,46]
def bf.text(x:bf):List (BitVec 8):=x.key++bBlank++itoaL x.lo++kC++itoaL x.hi
def bf.told(x:bf):List (BitVec 8):=if x.rightB then x.text else []
def bf.bytes(x:bf):List (BitVec 8):=textL x.key++numberL x.lo++numberL (x.hi-x.lo)
def mD(a b:Int):Int:=if a<b then -1 else if b<a then 1 else 0
def zy(a b:List (BitVec 8)):Bool:=Op.bytesLess (strOf a).toList (strOf b).toList
def vZ(a b:List (BitVec 8)):Int:=if zy a b=true then -1 else if zy b a=true then 1 else 0
def lN(a b c:Int):Int:=if a≠0 then a else if b≠0 then b else c
def zZ(a b:bf):Int:=lN (mD a.hi b.hi) (mD a.lo b.lo) (vZ a.key b.key)
def jm(a b:bf):Int:=lN (vZ a.key b.key) (mD a.lo b.lo) (mD a.hi b.hi)
def kG(x:bf)(mark:Int):Bool:=x.rightB && decide (x.hi<=mark)
def kD(q:bu)(x:bf)(mark:Int):Bool:=q.rightB && x.rightB && decide (x.hi+q.late<=mark)
theorem jr:∀x y:List UInt8,(!Op.bytesLess x y && !(x==y))=Op.bytesLess y x
 | [],[]=>rfl
 | [],_::_=>rfl
 | _::_,[]=>rfl
 | a::x,b::y=>by
  have j:=jr x y;simp only[Op.bytesLess,List.cons_beq_cons];by_cases h:a=b
  ·subst h;have k:¬a<a:=λh=>absurd (UInt8.lt_iff_toNat_lt.1 h) (by omega)
   simp only[k,decide_false,beq_self_eq_true,bgw,Bool.false_or];exact j
  have n:a.toNat≠b.toNat:=λe=>h (UInt8.toNat_inj.1 e);have l:(a==b)=false:=by simpa using h
  have m:(b==a)=false:=by simpa using λe=>h e.symm
  simp only[l,m,Bool.false_and,Bool.or_false,Bool.not_false,Bool.and_true];by_cases c:a<b
  ·have:=UInt8.lt_iff_toNat_lt.1 c;rw[bfr c,bfq (λd=>by have:=UInt8.lt_iff_toNat_lt.1 d;omega)]
   rfl
  have:b<a:=UInt8.lt_iff_toNat_lt.2 (by have d:¬a.toNat<b.toNat:=λd=>c (UInt8.lt_iff_toNat_lt.2 d);omega)
  rw[bfq c,bfr this];rfl
theorem QQ(a:List (BitVec 8)):vZ a a=0:=by
 have h:=jr (strOf a).toList (strOf a).toList;rw[beq_self_eq_true,Bool.not_true,Bool.and_false]at h;unfold vZ zy;rw[<-h];rfl
theorem bU {x:bf}(h:x.rightB=true):nameB x.key=true/\1<=x.key.length/\x.key.length<=16/\0<=x.lo/\x.lo<=1099511627776/\x.lo<x.hi/\x.hi<=4398046511104:=by
 simp only[bf.rightB,bf8,bf0]at h;obtain⟨b,c⟩:=h;have a:=b;simp only[nameB,bf8,bf0]at a;exact⟨b,a.2.1,a.2.2,c⟩
def dI(q:bu):Int:=if q.kind=2 then q.slide else q.size
def xP(q:bu)(key:List (BitVec 8))(k:Int):bf:=⟨key,k*dI q,k*dI q+q.size⟩
def Gg(q:bu)(t:Int):Int:=if t<q.size then 0 else (t-q.size) / dI q+1
def VG(q:bu)(key:List (BitVec 8))(k:Int)(n:Nat):List bf:=(List.range n).map λ(i:Nat)=>xP q key (k+(i:Int))
def lm(q:bu)(key:List (BitVec 8))(t:Int):Bool:=q.rightB && nameB key && decide (0<=t/\t<=1099511627776)
def rX(q:bu)(key:List (BitVec 8))(t:Int):List bf:=
 if lm q key t=true then (if q.kind=3 then [⟨key,t,t+q.size⟩]else VG q key (Gg q t) (t / dI q+1-Gg q t).toNat)else []
theorem zk(q:bu)(key:List (BitVec 8))(k:Int)(n:Nat):(VG q key k n).length=n:=by simp[VG]
theorem gX {q:bu}(h:q.rightB=true):1<=dI q/\dI q<=q.size/\q.size<=16*dI q/\1<=q.size/\q.size<=1073741824:=by
 obtain⟨c,_,d,b,e,_⟩:=kX h;unfold dI;by_cases a:q.kind=2
 ·have:=b a;rw[if_pos a];omega
 rw[if_neg a];omega
theorem rV {q:bu}(h:q.rightB=true) {t:Int}(k:Int)(b:0<=k):t<k*dI q+q.size↔Gg q t<=k:=by
 obtain⟨c,d,j,l,m⟩:=gX h;have n:0<=k*dI q:=Int.mul_nonneg b (by omega)
 unfold Gg;by_cases a:t<q.size
 ·rw[if_pos a];omega
 rw[if_neg a];have e:(t-q.size) / dI q<k↔t-q.size<k*dI q:=Int.ediv_lt_iff_lt_mul (by omega)
 omega
theorem rU {q:bu}(h:q.rightB=true) {t:Int}(j:0<=t):0<=Gg q t/\Gg q t<=t / dI q/\t / dI q+1-Gg q t<=16:=by
 obtain⟨n,o,p,r,s⟩:=gX h;have b:0<=t / dI q:=Int.ediv_nonneg j (by omega)
 have k:t / dI q*dI q<=t:=Int.ediv_mul_le _ (by omega)
 have l:t<t / dI q*dI q+dI q:=by
  have:=Int.lt_ediv_add_one_mul_self t (show 0<dI q by omega)
  rw[Int.add_mul,Int.one_mul]at this;exact this
 have c:0<=Gg q t:=by
  unfold Gg;by_cases a:t<q.size
  ·rw[if_pos a];omega
  rw[if_neg a];have:=Int.ediv_nonneg (show 0<=t-q.size by omega) (show 0<=dI q by omega)
  omega
 refine⟨c,(rV h _ b).1 (by omega),?_⟩
 by_cases m:t / dI q-16<0
 ·omega
 have d:=not_congr (rV h (t:=t) (t / dI q-16) (by omega))
 have e:(t / dI q-16)*dI q=t / dI q*dI q-16*dI q:=by rw[Int.sub_mul]
 rw[e]at d;have:=d.1 (by omega)
 omega
theorem Gi(q:bu)(key:List (BitVec 8))(t:Int):(rX q key t).length<=16:=by
 unfold rX
 split
 ·rename_i h;simp only[lm,bf8,bf0]at h
  split
  ·simp
  rw[zk];have:=rU h.1.1 h.2.1;omega
 simp
def gI:List (BitVec 8)->List (List (BitVec 8)) × List (BitVec 8)->List (List (BitVec 8))
 | [],p=>p.1++[p.2]
 | [c],p=>p.1++[p.2++[c]]
 | a::b::r,p=>if a=46/\b=46 then gI r (p.1++[p.2],[])else gI (b::r) (p.1,p.2++[a])
def sD(s:List (BitVec 8)):List (List (BitVec 8)):=gI s ([],[])
def nI:List (List (BitVec 8))->List (BitVec 8)
 | []=>[]
 | [a]=>a
 | a::b::r=>a++kC++nI (b::r)
theorem vW:∀(o:List (List (BitVec 8))) (w x:List (BitVec 8)),nI (o++[w++x])=nI (o++[w])++x
 | [],w,x=>rfl
 | [a],w,x=>by simp[nI]
 | a::b::r,w,x=>by
  have c:=vW (b::r) w x;simp only[List.cons_append,nI]at c ⊢;rw[c];simp
theorem BB:∀(o:List (List (BitVec 8))) (w x:List (BitVec 8)),nI (o++[w]++[x])=nI (o++[w])++kC++x
 | [],w,x=>by simp[nI]
 | [a],w,x=>by simp[nI]
 | a::b::r,w,x=>by
  have c:=BB (b::r) w x;simp only[List.cons_append,nI]at c ⊢;rw[c];simp
theorem Gf:∀(n:Nat) (s:List (BitVec 8)) (p:List (List (BitVec 8)) × List (BitVec 8)),s.length=n->nI (gI s p)=nI (p.1++[p.2])++s:=by
 intro n
 induction n using Nat.strongRecOn with
 | ind n ih=>
  intro s p d
  match s,d with
  | [],_=>simp[gI]
  | [c],_=>rw[gI,vW]
  | a::b::r,d=>
   rw[gI];by_cases h:a=46/\b=46
   ·rw[if_pos h,ih r.length (by simp at d;omega) r _ rfl]
    simp only;rw[BB,h.1,h.2];simp[kC]
   rw[if_neg h,ih (b::r).length (by simp at d ⊢;omega) (b::r) _ rfl]
   simp only;rw[vW];simp
theorem Jy(s:List (BitVec 8)):nI (sD s)=s:=by
 rw[sD,Gf _ s _ rfl];rfl
theorem xM:∀(a b:List (BitVec 8)) (o:List (List (BitVec 8))) (w:List (BitVec 8)),(∀c∈a,c≠46)->gI (a++kC++b) (o,w)=gI b (o++[w++a],[])
 | [],b,o,w,_=>by simp[kC,gI]
 | [c],b,o,w,h=>by
  have j:c≠46:=h c (by simp)
  show gI (c::46::46::b) (o,w)=_;rw[gI,if_neg (λe=>j e.1),gI,if_pos ⟨rfl,rfl⟩]
 | c::d::r,b,o,w,h=>by
  have j:c≠46:=h c (by simp)
  show gI (c::d::(r++kC++b)) (o,w)=_;rw[gI,if_neg (λe=>j e.1)];have:=xM (d::r) b o (w++[c]) (λx k=>h x (by simp[k]))
  rw[show d::(r++kC++b)=(d::r)++kC++b from rfl,this];simp
theorem xK:∀(a:List (BitVec 8)) (o:List (List (BitVec 8))) (w:List (BitVec 8)),(∀c∈a,c≠46)->gI a (o,w)=o++[w++a]
 | [],o,w,_=>by simp[gI]
 | [c],o,w,_=>by simp[gI]
 | c::d::r,o,w,h=>by
  have b:c≠46:=h c (by simp)
  rw[gI,if_neg (λe=>b e.1),xK (d::r) o (w++[c]) (λx j=>h x (by simp[j]))]
  simp
theorem Ns(a b:List (BitVec 8))(d:∀c∈a,c≠46)(e:∀c∈b,c≠46):sD (a++kC++b)=[a,b]:=by
 rw[sD,xM a b [] [] d,xK b _ _ e];simp
def D9(k a b:List (BitVec 8)):bf:=⟨k,(refNum a).1,(refNum b).1⟩
def qJ(k:List (BitVec 8)):List (List (BitVec 8))->bf × Bool
 | [a,b]=>if ((refNum a).2=true/\(refNum b).2=true)/\(D9 k a b).rightB=true then (D9 k a b,true)else (bF,false)
 | _=>(bF,false)
def tJ:List (List (BitVec 8))->bf × Bool
 | [k,r]=>qJ k (sD r)
 | _=>(bF,false)
def parseW(s:List (BitVec 8)):bf × Bool:=tJ (splitL s)
theorem rJ(n:Int):∀c∈itoaL n,c≠46:=by
 have d:∀u,∀c∈Lib.decDigits u,c≠46:=λu c b e=>by
  have:=(decDigits_val u).2.1 c b;rw[e]at this
  revert this
  decide
 intro c b e;obtain⟨x,a,rfl⟩:=List.mem_map.1 b;have j:x≠46:=by
  unfold Lib.itoa at a
  split at a
  ·rcases List.mem_cons.1 a with h | h
   ·rw[h];decide
   exact d _ x h
  exact d _ x a
 apply j;have k:=congrArg BitVec.toNat e;have l:=x.toNat_lt;simp at k;exact UInt8.toNat_inj.1 (by rw[show(46:UInt8).toNat=46 from rfl];omega)
theorem y9 {x:bf}(h:x.rightB=true):∀c∈x.key,c≠32:=noBlank_bv (name_noBlank (bU h).1)
theorem xB(n:Int)(h:0<=n/\n<1000000000000000000):refNum (itoaL n)=(n,true):=by
 rw[itoaL_bv,Lib.itoa,if_neg (by omega)]
 obtain⟨b,d⟩:=digits_plain n.toNat (by omega)
 have a:negN (bvL (Lib.decDigits n.toNat))=false:=by
  simp only[negN,decide_eq_false_iff_not];rintro⟨_,e⟩;obtain⟨j,p2,p3,p4⟩:=plainN_spec b
  cases hl:bvL (Lib.decDigits n.toNat)with
  | nil=>exact j hl
  | cons c r=>
   rw[hl]at e p4;simp only[List.head?_cons,bf5]at e;rw[e]at p4
   revert p4
   simp[digitC]
 rw[refNum,a,if_neg (by decide),if_pos b,d]
 simp only[Prod.mk.injEq,and_true];omega
theorem JR {x:bf}(h:x.rightB=true):parseW x.text=(x,true):=by
 obtain⟨j,k,l,m,n,o,p⟩:=bU h;have b:=y9 h;have e:x.text=x.key++bBlank++(itoaL x.lo++kC++itoaL x.hi):=by simp[bf.text]
 have d:∀c∈itoaL x.lo++kC++itoaL x.hi,c≠32:=by
  intro c a;simp only[bgg]at a;rcases a with(a | a) | a
  ·exact itoaL_noBlank _ c a
  ·have:∀c∈kC,c≠32:=by decide
   exact this c a
  exact itoaL_noBlank _ c a
 rw[parseW,e,splitL_two _ _ b d];show qJ x.key (sD _)=_;rw[Ns _ _ (rJ _) (rJ _)];show(if _ then _ else _)=_
 rw[D9,xB x.lo (by omega),xB x.hi (by omega),if_pos ⟨⟨rfl,rfl⟩,h⟩]
theorem xA {s:List (BitVec 8)} {x:bf}(h:parseW s=(x,true)):x.rightB=true/\x.text=s:=by
 have e:=join_split s;unfold parseW at h
 match hs:splitL s,h with
 | [k,r],h=>
  have c:=Jy r;rw[hs]at e;simp only[tJ]at h
  match hd:sD r,h with
  | [a,b],h=>
   rw[hd]at c;simp only[qJ]at h;by_cases d:((refNum a).2=true/\(refNum b).2=true)/\(D9 k a b).rightB=true
   ·rw[if_pos d]at h;obtain⟨⟨c1,c2⟩,c3⟩:=d;simp only[Prod.mk.injEq,and_true]at h;subst h;refine⟨c3,?_⟩;have j:a=itoaL (refNum a).1:=refNum_sound (Prod.ext rfl c1);have l:b=itoaL (refNum b).1:=refNum_sound (Prod.ext rfl c2);rw[<-e,joinL,joinL,<-c,nI,nI,bf.text,D9];simp only;rw[<-j,<-l];simp
   rw[if_neg d]at h;simp at h
  | [],h=>simp[qJ]at h
  | [_],h=>simp[qJ]at h
  | _::_::_::_,h=>simp[qJ]at h
 | [],h=>simp[tJ]at h
 | [_],h=>simp[tJ]at h
 | _::_::_::_,h=>simp[tJ]at h
theorem DN {s:List (BitVec 8)}(h:(parseW s).2=false):parseW s=(bF,false):=by
 unfold parseW at h ⊢
 match splitL s,h with
 | [k,r],h=>
  simp only[tJ]at h ⊢
  match sD r,h with
  | [a,b],h=>
   simp only[qJ]at h ⊢;by_cases c:((refNum a).2=true/\(refNum b).2=true)/\(D9 k a b).rightB=true
   ·rw[if_pos c]at h;cases h
   rw[if_neg c]
  | [],_=>rfl
  | [_],_=>rfl
  | _::_::_::_,_=>rfl
 | [],_=>rfl
 | [_],_=>rfl
 | _::_::_::_,_=>rfl
theorem JQ(s:List (BitVec 8))(a:bf)(h:∀x:bf,x.rightB=true->x.text=s->a=x):(if a.rightB=true/\a.text=s then (a,true)else (bF,false))=parseW s:=by
 by_cases b:a.rightB=true/\a.text=s
 ·rw[if_pos b,<-b.2,JR b.1]
 rw[if_neg b]
 cases hr:(parseW s).2 with
 | false=>exact(DN hr).symm
 | true=>
  obtain⟨c,d⟩:=xA (x:=(parseW s).1) (Prod.ext rfl hr);exact absurd ⟨by rw[h _ c d];exact c,by rw[h _ c d];exact d⟩ b
open Go Go.ChangeShapes Go.WideShapes Go.ChangeAt Go.WideMaps Go.WideElems Go.RowKit Go.Proofs.Tryz
theorem bg(w:World)(o:Obj):(w.alloc o).heap.size=w.heap.size+1:=by
 show(w.heap.push o).size=_;exact Array.size_push ..
theorem bz:(prog.info? 34).map (·.size)=some 3:=by kernel_rfl
theorem bG(x:bf):x.cells.all (·.oneCell')=true:=by
 rw[Array.all_eq_true'];intro v a;simp only[bf.cells,List.mem_toArray,bf2,bf9,or_false]at a;rcases a with rfl | rfl | rfl <;> rfl
def dH(w:World)(b:Nat)(x:bf):Prop:=w.heap[b]? =some (.cells x.cells 34 (0,0))
theorem dH.lt {w:World} {b:Nat} {x:bf}(h:dH w b x):b<w.heap.size:=(Array.getElem?_eq_some_iff.1 h).1
theorem dH.below {w w':World} {b:Nat} {x:bf}(h:dH w b x)(a:Bw w w'):dH w' b x:=(a.block b h.lt).trans h
theorem dH.cell {w:World} {b:Nat} {x:bf}(h:dH w b x)(i:Nat) {v:Value}(a:x.cells[i]? =some v):w.cell? ⟨b,i,none⟩=some v:=by
 rw[cell_of_row _ _ _ _ _ _ h];exact a
def D3(w:World)(b:Nat)(key:List (BitVec 8))(lo hi:Int):Prop:=w.cell? ⟨b,0,none⟩=some (Sv key)/\w.cell? ⟨b,1,none⟩=some (.int .i64 lo)/\w.cell? ⟨b,2,none⟩=some (.int .i64 hi)
theorem dH.d3 {w:World} {b:Nat} {x:bf}(h:dH w b x):D3 w b x.key x.lo x.hi:=⟨h.cell 0 rfl,h.cell 1 rfl,h.cell 2 rfl⟩
theorem kH(w:World)(x:bf):dH ((w.alloc (Obj.cells bF.cells 34)).setRow w.heap.size x.cells) w.heap.size x/\Bw w ((w.alloc (Obj.cells bF.cells 34)).setRow w.heap.size x.cells):=
 ⟨setRow_heap _ _ _ _ _ _ (bg5 w _),((Below.refl _ w).alloc (bfx _) _).trans ⟨rfl,rfl,rfl,by simp[World.setRow],λk a=>setRow_other _ _ _ _ (by omega)⟩⟩
theorem KQ(w:World)(x:bf):∀w',Below (w.alloc (.cells x.cells 34)).heap.size (w.alloc (.cells x.cells 34)) w'->∀i v,x.cells[i]? =some v->w'.cell? ⟨w.heap.size,i,none⟩=some v:=by
 intro w' b i v c;have a:=bg5 w (.cells x.cells 34);rw[cell_of_row w' _ i _ _ _ ((b.block _ (Array.getElem?_eq_some_iff.1 a).1).trans a)];exact c
def ku(x y:bf):Bool:=decide (x.key=y.key) && (x.lo==y.lo && x.hi==y.hi)
theorem jY(x y:bf):ku x y=true↔x=y:=by
 obtain⟨a,b,c⟩:=x;obtain⟨d,e,h⟩:=y;simp[ku]
theorem XB {α β:Type}(g:α->β):∀(l:List α) (a b c:β),l.map g=[a,b,c]->∃d e j,l=[d,e,j]/\g d=a/\g e=b/\g j=c
 | [],_,_,_,h=>by simp at h
 | [_],_,_,_,h=>by simp at h
 | [_,_],_,_,_,h=>by simp at h
 | [d,e,j],_,_,_,h=>by
  simp only[bgc,bge,List.cons.injEq,and_true]at h;exact⟨d,e,j,rfl,h⟩
 | _::_::_::_::_,_,_,_,h=>by simp at h
theorem qf(w:World)(x y:bf):(Op.equalIn 10000 34 (.agg x.cells) (.agg y.cells)).run prog w=.ok (ku x y) w:=by
 rw[run_equalIn_agg w 9999 34 _ _ (by kernel_rfl) (by kernel_rfl)]
 have r : (prog.fieldsOf 34).toList.map (fun f => (f.name, f.type, f.offset)) = [("Key", 9, 0), ("From", 3, 1), ("To", 3, 2)] := by kernel_rfl
 generalize (prog.fieldsOf 34).toList=l at r
 obtain⟨k,m,n,rfl,J⟩:=XB _ _ _ _ _ r;obtain⟨K,L,M⟩:=J
 obtain ⟨N, o, s⟩ : k.name = "Key" ∧ k.type = 9 ∧ k.offset = 0 := by simpa using K
 obtain ⟨O, p, u⟩ : m.name = "From" ∧ m.type = 3 ∧ m.offset = 1 := by simpa using L
 obtain ⟨Q, q, D⟩ : n.name = "To" ∧ n.type = 3 ∧ n.offset = 2 := by simpa using M
 have E:∀z:bf,(part 9 z.cells 0).run prog w=.ok (Sv z.key) w:=λz=>by simp[part,go_sem,bf.cells]
 have F:∀z:bf,(part 3 z.cells 1).run prog w=.ok (.int .i64 z.lo) w:=λz=>by simp[part,go_sem,bf.cells]
 have p2:∀z:bf,(part 3 z.cells 2).run prog w=.ok (.int .i64 z.hi) w:=λz=>by simp[part,go_sem,bf.cells]
 have I:∀(d:Nat) (a b:Int),(Op.equalIn (d+1) 3 (.int .i64 a) (.int .i64 b)).run prog w=.ok (a==b) w:=λd a b=>run_equalIn_int w d 3 .i64 .i64 a b underlying3;have R:∀(d:Nat) (a b:List (BitVec 8)),(Op.equalIn (d+1) 9 (Sv a) (Sv b)).run prog w=.ok (decide (a=b)) w:=λd a b=>by
  rw[Sv,Sv,run_equalIn_string w d 9 _ _ underlying9,str_eq]
 obtain⟨a,b,c⟩:=x;obtain⟨e,h,j⟩:=y;rw[eqF_step (Sv a) (Sv e) (decide (a=e)) (by rw[N];decide) (by rw[o,s];exact E ⟨a,b,c⟩) (by rw[o,s];exact E ⟨e,h,j⟩) (by rw[o];exact R 9998 a e),
  eqF_step (.int .i64 b) (.int .i64 h) (b==h) (by rw[O];decide) (by rw[p,u];exact F ⟨a,b,c⟩) (by rw[p,u];exact F ⟨e,h,j⟩) (by rw[p];exact I 9998 b h),
  eqF_step (.int .i64 c) (.int .i64 j) (c==j) (by rw[Q];decide) (by rw[q,D];exact p2 ⟨a,b,c⟩) (by rw[q,D];exact p2 ⟨e,h,j⟩) (by rw[q];exact I 9998 c j)]
 simp only[ku];cases decide (a=e) <;> cases b==h <;> cases c==j <;> rfl
theorem jS(w:World)(x y:bf):(binOp .eql 34 (.agg x.cells) (.agg y.cells)).run prog w=.ok (.bool (ku x y)) w:=by
 rw[run_eql_struct,qf];rfl
theorem jX(w:World)(a:BinOp)(b c:Operand)(x y:bf):(eqGuard a 34 b c (.agg x.cells) (.agg y.cells)).run prog w=.ok () w:=run_eqGuard_agg w a _ b c _ _ (by kernel_rfl)
def fZ(w:World)(a:Option Addr)(l:List bf):Prop:=
 l=[]∨∃b o,a=some ⟨b,o,none⟩/\∀i x,l[i]? =some x->∀j v,x.cells[j]? =some v->w.cell? ⟨b,o+i*3+j,none⟩=some v
theorem fZ.below {w w':World} {a:Option Addr} {l:List bf}(h:fZ w a l)(k:Bw w w'):fZ w' a l:=by
 rcases h with h | ⟨b,o,h,c⟩
 ·exact .inl h
 exact .inr ⟨b,o,h,λi x d j v e=>(k.cell (block_lt_of_cell (c i x d j v e))).trans (c i x d j v e)⟩
def FI(w:World)(l:List bf)(e:Ending)(w':World):Prop:=∃a c,e=.returned (.slice a l.length c)/\l.length<=c/\fZ w' a l/\Bw w w'
theorem Dn {x:bf} {j:Nat} {v:Value}(h:x.cells[j]? =some v):j<3:=by
 have:=(Array.getElem?_eq_some_iff.1 h).1;simpa[bf.cells]using this
def cO(l:List bf):List Value:=l.flatMap λx=>x.cells.toList
def dQ(w:World)(base:Nat)(v:Value)(l:List bf):Prop:=w.ownsRow base 34 3 v l.length (cO l)
theorem dX(l:List bf):(cO l).length=l.length*3:=by
 induction l with
 | nil=>rfl
 | cons x l ih=>
  have:(cO (x::l)).length=3+(cO l).length:=by
   show(x.cells.toList++cO l).length=_;rw[bft];rfl
  rw[this,ih,bgy];omega
theorem vS(l:List bf):∀(i:Nat) (x:bf) (j:Nat) (v:Value),l[i]? =some x->x.cells[j]? =some v->(cO l)[i*3+j]? =some v:=by
 induction l with
 | nil=>intro i x j v h;simp at h
 | cons y l ih=>
  intro i x j v h a;have d:j<3:=Dn a;have c:(cO (y::l))=y.cells.toList++cO l:=rfl;have b:y.cells.toList.length=3:=rfl
  cases i with
  | zero=>
   simp only[bgp,bf5]at h;subst h;rw[c,Nat.zero_mul,bgu,List.getElem?_append_left (by omega)]
   simpa using a
  | succ i=>
   rw[c,List.getElem?_append_right (by omega),b,show(i+1)*3+j-3=i*3+j by omega]
   exact ih i x j v (by simpa using h) a
theorem dQ.nil(w:World)(a:Nat):dQ w a (.slice none 0 0) []:=World.ownsRow_nil w a _ 3
theorem dQ.form {w:World} {b:Nat} {v:Value} {l:List bf}(h:dQ w b v l):∃a c,v=.slice a l.length c/\l.length<=c/\fZ w a l:=by
 have e:=h;rcases h.2 with⟨d,m⟩ | ⟨g,p,q,d,_,_,k,_⟩
 ·exact⟨none,0,by rw[d,m],by omega,.inl (bg3 m)⟩
 refine⟨_,_,d,k,.inr ⟨g,0,rfl,λi x n j u o=>?_⟩⟩;unfold dQ at e;rw[d]at e;have r:i<l.length:=(List.getElem?_eq_some_iff.1 n).1;have s:j<3:=Dn o;rw[show 0+i*3+j=i*3+j by omega,World.ownsRow.cellAt e _ (by omega)]
 exact vS l i x j u n o
theorem dQ.kept {w w':World} {a:Nat} {v:Value} {l:List bf}(h:dQ w a v l) {row:Option Nat}(c:w.grownBy w' row)(b:v.ownBlock=none∨v.ownBlock≠row):dQ w' a v l:=World.ownsRow.kept h c b
theorem dQ.far {w w':World} {a:Nat} {v:Value} {l:List bf}(h:dQ w a v l)(b:Bw w w'):dQ w' a v l:=
 h.kept (grown_none_below b) (by cases c:v.ownBlock <;> simp)
theorem dQ.lt {w:World} {a:Nat} {v:Value} {l:List bf}(h:dQ w a v l) {k:Nat}(b:v.ownBlock=some k):a<=k/\k<w.heap.size:=World.ownsRow.lt h k b
theorem wW(l:List bf)(x:bf):cO (l++[x])=cO l++x.cells.toList:=by simp[cO]
theorem xW {m:Array Oper} {c:List Oper} {o:Oper} {a:Act} {Q:Exit->Act->World->Prop} {w:World}(p:o.guard=none)(s x:Operand)
  (E:o.op=.call { callee:=.builtin .append,args:=#[s,x],argTypes:=#[115,115] })
  (b:Nat) (v:Value) (l:List bf) (F:a.eval s=v) (n:dQ w b v l) (u:bf) (g:Nat) (I:a.eval x=.slice (some ⟨g,0,none⟩) 1 1) (J:∀j z,u.cells[j]? =some z->w.cell? ⟨g,j,none⟩=some z)
  (D:l.length+1<=1000000) (d:b<=w.heap.size)
  (h:∀k w',dQ w' b k (l++[u])->w.grownBy w' v.ownBlock->(k.ownBlock=v.ownBlock∨k.ownBlock=some w.heap.size)->wpList prog m Q c (a.put o.dst k) w'):
  wpList prog m Q (o::c) a w:=by
 obtain⟨i,K,q,r,y⟩:=info_parts (P:=prog) (e:=34) (z:=.agg #[.string ⟨#[]⟩,.int .i64 0,.int .i64 0]) (size:=3) (bytes:=32) (by kernel_rfl)
 refine wpList_append_own_at _ p s x 115 E b 34 i _ 3 32 underlying115 K q r y rfl (by decide) v l.length (cO l) F n ⟨g,0,none⟩ 1 1 u.cells.toList I rfl ?_ ?_ (by unfold maxLen;omega) (by omega) d ?_
 ·intro j z L;rw[addr_add,bgu];exact J j z (by simpa using L)
 ·intro z M;exact Array.all_eq_true'.1 (bG u) z (by simpa using M)
 intro k w' N O _ R;refine h k w' ?_ O R;unfold dQ;rw[wW,bft];exact N
theorem dQ.below {w w':World} {a:Nat} {v:Value} {l:List bf}(h:dQ w a v l)(b:w.grownBy w' v.ownBlock)(d:a<=w.heap.size):Below a w w':=
 ⟨b.os,b.tape,b.output,b.size,λk e=>b.block k (by omega) (λc=>by have:=h.lt c.symm;omega)⟩
theorem Lm {l:List bf} {b o:Nat} {w:World}(h:∀i x,l[i]? =some x->∀j v,x.cells[j]? =some v->w.cell? ⟨b,o+i*3+j,none⟩=some v):∀(n:Nat) (u:Value),(cO l)[n]? =some u->w.cell? ((⟨b,o,none⟩:Addr).add n)=some u:=by
 intro n u a;have m:=(List.getElem?_eq_some_iff.1 a).1;rw[dX]at m;have p:n / 3<l.length:=by omega
 have c:l[n / 3]? =some l[n / 3]:=bfs p;have q:n % 3<3:=by omega
 obtain⟨v,d⟩:∃v,(l[n / 3]).cells[n % 3]? =some v:=by
  have r:(l[n / 3]).cells.size=3:=rfl;exact⟨_,bgm (by rw[r];exact q)⟩
 have k:=vS l (n / 3) _ (n % 3) v c d;have e:n / 3*3+n % 3=n:=by omega
 rw[e,a]at k;cases k
 rw[addr_add];have s:=h (n / 3) _ c (n % 3) u d
 rwa [Nat.add_assoc,e]at s
theorem mP:((prog.info? 34).map λi=>(i.zero,i.size,i.bytes))=some (some (.agg #[.string ⟨#[]⟩,.int .i64 0,.int .i64 0]),3,32):=by kernel_rfl
theorem yS(l:List bf):∀u∈cO l,u.oneCell'=true:=by
 intro u a;obtain⟨x,_,b⟩:=List.mem_flatMap.1 a;exact Array.all_eq_true'.1 (bG x) u (by simpa using b)
theorem G8(w:World)(d:Nat)(v:Value)(m e:List bf)(k:dQ w d v m)(a:Option Addr)(c:Nat)(h:fZ w a e)(Q:m.length+e.length<=1000000)(z:d<=w.heap.size)(ty:TypeId):
  ∃l w',(Builtin.append_ #[115,115] ty #[v,.slice a e.length c]).run prog w=.ok l w'/\dQ w' d l (m++e)/\w.grownBy w' v.ownBlock/\(l.ownBlock=v.ownBlock∨l.ownBlock=some w.heap.size):=by
 obtain⟨i,p,D,E,q⟩:=info_parts mP;have some_case:∀n:Addr,(∀(j:Nat) (u:Value),(cO e)[j]? =some u->w.cell? (n.add j)=some u)->
   ∃l w',(Builtin.append_ #[115,115] ty #[v,.slice (some n) e.length c]).run prog w=.ok l w'/\dQ w' d l (m++e)/\w.grownBy w' v.ownBlock/\(l.ownBlock=v.ownBlock∨l.ownBlock=some w.heap.size):=by
  intro n r;obtain⟨l,w',F,I,J,_,K⟩:=run_append_own_at (P:=prog) w d 115 ty 34 i _ 3 32 underlying115 p D E q rfl (by decide) v m.length (cO m) k n e.length c (cO e) (dX e) r (yS e)
   (by unfold maxLen;omega) (by omega) z
  refine⟨l,w',F,?_,J,K⟩;unfold dQ;rw[bft,show cO (m++e)=cO m++cO e by simp[cO]]
  exact I
 cases a with
 | some n=>
  rcases h with rfl | ⟨b,o,s,r⟩
  ·exact some_case n λj u L=>by simp[cO]at L
  cases s
  exact some_case _ (Lm r)
 | none=>
  have M:e=[]:=by
   rcases h with h | ⟨_,_,s,_⟩
   ·exact h
   cases s
  subst M;refine⟨v,w,?_,by simpa using k,⟨rfl,rfl,rfl,bfx _,λ_ _ _=>rfl⟩,.inl rfl⟩
  rcases k.2 with⟨x,R⟩ | ⟨g,N,O,x,_,S,y,_⟩
  ·rw[x];simp[Builtin.append_,run_underlying underlying115,sizeOf,typeInfo,p,Builtin.lenOf,Builtin.firstCells]
  rw[x];simp[Builtin.append_,run_underlying underlying115,sizeOf,typeInfo,p,Builtin.lenOf,Builtin.firstCells,storeCells,loadCells,y]
theorem sG {j:Array Oper} {d:List Oper} {o:Oper} {a:Act} {Q:Exit->Act->World->Prop} {w:World}(p:o.guard=none)(s x:Operand)
  (r:o.op=.call { callee:=.builtin .append,args:=#[s,x],argTypes:=#[115,115] }) (b:Nat) (v:Value) (m k:List bf) (u:a.eval s=v) (l:dQ w b v m)
  (q:Option Addr) (c n:Nat) (y:n=k.length) (z:a.eval x=.slice q n c) (D:fZ w q k) (E:m.length+k.length<=1000000) (F:b<=w.heap.size)
  (h:∀e w',dQ w' b e (m++k)->w.grownBy w' v.ownBlock->(e.ownBlock=v.ownBlock∨e.ownBlock=some w.heap.size)->wpList prog j Q d (a.put o.dst e) w'):
  wpList prog j Q (o::d) a w:=by
 refine wpList_plain p λK I=>?_;subst y;obtain⟨e,w',J,L,M,N⟩:=G8 w b v m k l q c D E F o.type;unfold Oper.wp execOp;simp only[r,resolve,invoke,builtin,Sem.run_bind,Sem.run_pure,Result.andThen_ok,bgb,bgc,bge,u,z,J];exact I _ _ (h e w' L M N)
theorem wpList_slice1_W {d:Array Oper} {b:List Oper} {o:Oper} {a:Act} {w:World} {Q:Exit->Act->World->Prop}(j:o.guard=none)(y:Operand)(k:o.op=.buildSlice 115 1 #[(0,y)])(x:bf)(l:a.eval y=.agg x.cells)
  (h:wpList prog d Q b (a.put o.dst (.slice (some ⟨w.heap.size,0,none⟩) 1 1)) (w.alloc (.cells x.cells 34))):wpList prog d Q (o::b) a w:=by
 have m:Instr.fill (λi=>some (i*3,3)) ((Array.range (1*3)).map ((Value.agg #[.string ⟨#[]⟩,.int .i64 0,.int .i64 0]).cells[· % (Value.agg #[.string ⟨#[]⟩,.int .i64 0,.int .i64 0]).cells.size]!)) [(0,.agg x.cells)]=some x.cells:=by kernel_rfl
 obtain⟨i,n,e,c,p⟩:=info_parts mP;refine wpList_buildSlice j 115 34 1 _ k x.cells i _ underlying115 n e (by rw[c];decide) (by rw[c];decide) ?_ h
 rw[c];simp only[bgb,bgc,bge,l];exact m
theorem bV {P:Program} {c:Array Oper} {b:List Oper} {o:Oper} {a:Act} {w:World} {Q:Exit->Act->World->Prop}(e:Region.wanted o (yielded c a.tmps)=true)(t:TypeId)(parts:Array (Nat × Operand))(j:o.op=.build t parts)
  (cells:Array Value) (d:P.built t (parts.map λ(i,x)=>(i,a.eval x)).toList=some cells) (h:wpList P c Q b (a.put o.dst (.agg cells)) w):wpList P c Q (o::b) a w:=by
 unfold wpList;rw[if_pos e];exact .inl (wp_build t parts j (by rw[d];rfl) (by rw[d];exact h))
theorem l9(k:List (BitVec 8))(a b:Int):prog.built 34 [(0,Sv k),(1,.int .i64 a),(2,.int .i64 b)]=some (bf.mk k a b).cells:=by kernel_rfl
def TapeL.Nz(t:TapeL):bf × TapeL:=
 (⟨(t.text 16).1,((t.text 16).2.number 9223372036854775807).1,((t.text 16).2.number 9223372036854775807).1+(((t.text 16).2.number 9223372036854775807).2.number 9223372036854775807).1⟩,(((t.text 16).2.number 9223372036854775807).2.number 9223372036854775807).2)
def TapeL.nK(x:bf)(t:TapeL):TapeL:=if x.rightB then t else t.fail 11
def TapeL.window(t:TapeL):bf × TapeL:=(if (TapeL.nK t.Nz.1 t.Nz.2).e=0 then t.Nz.1 else bF,TapeL.nK t.Nz.1 t.Nz.2)
end Go.Proofs.YtgfmbkoieacgoaaGreatDoor
set_option maxRecDepth 100000
namespace Go.Proofs.YtgfmbkoieacgoaaGreatDoor
open Go Go.RowKit Go.Proofs.Tryz
theorem Nh {P:Program}(w:World)(t:TypeId)(a b:List (BitVec 8)):(binOp .lss t (Sv a) (Sv b)).run P w=.ok (.bool (zy a b)) w:=by
 simp[Sv,binOp,Op.stringOp,zy]
theorem Nc {P:Program}(w:World)(t:TypeId)(a b:List (BitVec 8)):(binOp .gtr t (Sv a) (Sv b)).run P w=.ok (.bool (zy b a)) w:=by
 rw[zy,<-jr];simp[Sv,binOp,Op.stringOp]
theorem Bz(w:World)(a:Int):Calls prog 162 #[.int .i64 a] w λe w'=>e=.returned (.bool false)/\w'=w:=by
 have h:(a !=a)=false:=by simp
 go_enter func162,ntmps162;go_wp2_with fail;go_ret;exact⟨rfl,rfl⟩
theorem BA(w:World)(a:List (BitVec 8)):Calls prog 163 #[Sv a] w λe w'=>e=.returned (.bool false)/\w'=w:=by
 have h:∀w,(binOp .neq 9 (Sv a) (Sv a)).run prog w=.ok (.bool false) w:=λw=>by
  have h:=run_neq_Sv w a a
  rwa [bfr rfl]at h
 go_enter func163,ntmps163;go_wp2_with fail;go_ret;exact⟨rfl,rfl⟩
theorem rH(w:World)(a b:Int):Calls prog 102 #[.int .i64 a,.int .i64 b] w λe w'=>e=.returned (.int .i64 (mD a b))/\w'=w:=by
 have j:=Lh (Bz w a);have k:=Lh (Bz w b);obtain⟨r,d⟩:=Nm (mD a b);rw[<-d];unfold mD at d;by_cases l:a<b
 ·obtain rfl:r=-1:=by rw[d,if_pos l]
  clear d;go_enter func102,ntmps102;go_wp2_with fail;refine j.out.mono ?_;rintro e c ⟨rfl,h⟩;subst c;dsimp only;go_wp2_with fail;refine k.out.mono ?_;rintro e c ⟨rfl,h⟩;subst c;dsimp only;go_wp2_with fail;go_ret;exact⟨rfl,rfl⟩
 rw[if_neg l]at d;by_cases m:b<a
 ·obtain rfl:r=1:=by rw[d,if_pos m]
  clear d;go_enter func102,ntmps102;go_wp2_with fail;refine j.out.mono ?_;rintro e c ⟨rfl,h⟩;subst c;dsimp only;go_wp2_with fail;refine k.out.mono ?_;rintro e c ⟨rfl,h⟩;subst c;dsimp only;go_wp2_with fail;go_ret;exact⟨rfl,rfl⟩
 obtain rfl:r=0:=by rw[d,if_neg m]
 clear d;go_enter func102,ntmps102;go_wp2_with fail;refine j.out.mono ?_;rintro e c ⟨rfl,h⟩;subst c;dsimp only;go_wp2_with fail;refine k.out.mono ?_;rintro e c ⟨rfl,h⟩;subst c;dsimp only;go_wp2_with fail;go_ret;exact⟨rfl,rfl⟩
theorem Jh(w:World)(a b:List (BitVec 8)):Calls prog 103 #[Sv a,Sv b] w λe w'=>e=.returned (.int .i64 (vZ a b))/\w'=w:=by
 have j:=Lh (BA w a);have k:=Lh (BA w b);have n:∀w,(binOp .lss 9 (Sv a) (Sv b)).run prog w=.ok (.bool (zy a b)) w:=λw=>Nh w _ a b;have o:∀w,(binOp .gtr 9 (Sv a) (Sv b)).run prog w=.ok (.bool (zy b a)) w:=λw=>Nc w _ a b;obtain⟨r,d⟩:=Nm (vZ a b);rw[<-d];unfold vZ at d;obtain⟨p,l⟩:=Nm (zy a b);obtain⟨q,m⟩:=Nm (zy b a);rw[<-l]at n d;rw[<-m]at o d;clear l m
 cases p with
 | true=>
  obtain rfl:r=-1:=d;go_enter func103,ntmps103;go_wp2_with fail;refine j.out.mono ?_;rintro e c ⟨rfl,h⟩;subst c;dsimp only;go_wp2_with fail;refine k.out.mono ?_;rintro e c ⟨rfl,h⟩;subst c;dsimp only;go_wp2_with fail;go_ret;exact⟨rfl,rfl⟩
 | false=>
  cases q with
  | true=>
   obtain rfl:r=1:=d;go_enter func103,ntmps103;go_wp2_with fail;refine j.out.mono ?_;rintro e c ⟨rfl,h⟩;subst c;dsimp only;go_wp2_with fail;refine k.out.mono ?_;rintro e c ⟨rfl,h⟩;subst c;dsimp only;go_wp2_with fail;go_ret;exact⟨rfl,rfl⟩
  | false=>
   obtain rfl:r=0:=d;go_enter func103,ntmps103;go_wp2_with fail;refine j.out.mono ?_;rintro e c ⟨rfl,h⟩;subst c;dsimp only;go_wp2_with fail;refine k.out.mono ?_;rintro e c ⟨rfl,h⟩;subst c;dsimp only;go_wp2_with fail;go_ret;exact⟨rfl,rfl⟩
def Xa(w0:World)(ns:List Int)(v:Value)(wr:World):Prop:=∃j:Nat,j<=3/\v=.int .i64 (j:Int)/\(∀i<j,ns.getD i 0=0)/\wr=w0
theorem Qr(a b c:Int):(∀j<3,(∀i<j,([a,b,c]:List Int).getD i 0=0)->([a,b,c]:List Int).getD j 0≠0->lN a b c=([a,b,c]:List Int).getD j 0)/\((∀i<3,([a,b,c]:List Int).getD i 0=0)->lN a b c=0):=by
 constructor
 ·intro j m d k;obtain rfl | rfl | rfl:j=0∨j=1∨j=2:=by omega
  ·exact if_pos k
  ·have e:a=0:=d 0 (by omega)
   unfold lN;rw[if_neg (by simpa using e)]
   exact if_pos k
  have e:a=0:=d 0 (by omega)
  have h:b=0:=d 1 (by omega)
  unfold lN;rw[if_neg (by simpa using e),if_neg (by simpa using h)]
  rfl
 intro d;have e:a=0:=d 0 (by omega)
 have h:b=0:=d 1 (by omega)
 have l:c=0:=d 2 (by omega)
 unfold lN;rw[if_neg (by simpa using e),if_neg (by simpa using h),l]
theorem Pj(w:World)(g:Nat)(a b c:Int)(y:w.heap[g]? =some (.cells #[.int .i64 a,.int .i64 b,.int .i64 c] 3 (0,0))):
  Calls prog 101 #[.slice (some ⟨g,0,none⟩) 3 3] w λe w'=>e=.returned (.int .i64 (lN a b c))/\w'=w:=by
 obtain⟨r,o⟩:=Nm (lN a b c);rw[<-o];obtain⟨k,l⟩:=Nm ([a,b,c]:List Int);have E:Hid (∀j<3,w.cell? ⟨g,j,none⟩=some (.int .i64 (k.getD j 0))):=by
  rw[l];refine Lh (λj z=>?_);rw[cell_of_row _ _ _ _ _ _ y];obtain rfl | rfl | rfl:j=0∨j=1∨j=2:=by omega
  all_goals rfl
 have m:Hid ((∀j<3,(∀i<j,k.getD i 0=0)->k.getD j 0≠0->r=k.getD j 0)/\((∀i<3,k.getD i 0=0)->r=0)):=by
  rw[o,l];exact Lh (Qr a b c)
 clear l o y;go_enter func101,ntmps101;go_wp2_with fail;go_loopw[8] (Xa w k) (λv _=>3-(intOf v).toNat)
 case atStart=>exact⟨0,by omega,rfl,λi F=>by omega,rfl⟩
 case round=>
  obtain⟨j,z,rfl,D,I⟩:=hrel;subst wr;have p:=Lh D;clear D;by_cases h:j<3
  ·have J:=E.out j h;obtain⟨n,q⟩:=Nm (k.getD j 0);rw[<-q]at J;have s:=Lh q;clear q;by_cases d:n=0
   ·have K:(n !=0)=false:=by rw[d];rfl
    have u:=Lh d;clear d;go_wp2_with fail;go_roundw
    case rel=>
     refine⟨j+1,h,by go_num,λi F=>?_,rfl⟩
     by_cases x:i<j
     ·exact p.out i x
     obtain rfl:i=j:=by omega
     rw[<-s.out];exact u.out
    case measure=>simp[intOf];omega
   have K:(n !=0)=true:=by simpa using d
   obtain rfl:r=n:=by rw[s.out];exact m.out.1 j h p.out (by rw[<-s.out];exact d)
   clear d;go_wp2_with fail;go_ret;exact⟨rfl,rfl⟩
  obtain rfl:j=3:=by omega
  obtain rfl:r=0:=m.out.2 p.out;clear h z;go_wp2_with fail;go_ret;exact⟨rfl,rfl⟩
theorem NC {q:bu}(h:q.rightB=true) {key:List (BitVec 8)}(d:nameB key=true) {t k:Int}(e:0<=t)(n:t<=1099511627776)(a:Gg q t<=k)(b:k<=t / dI q):
  (xP q key k).rightB=true/\(xP q key k).lo<=t/\t<(xP q key k).hi/\(xP q key k).hi<=1100585369600:=by
 obtain⟨o,p,r,s,u⟩:=gX h;obtain⟨x,y,z⟩:=rU h e;have j:0<=k*dI q:=Int.mul_nonneg (by omega) (by omega)
 have l:k*dI q<=t / dI q*dI q:=Int.mul_le_mul_of_nonneg_right b (by omega)
 have m:t / dI q*dI q<=t:=Int.ediv_mul_le _ (by omega)
 have c:=(rV h (t:=t) k (by omega)).2 a
 refine⟨?_,?_,c,?_⟩
 ·unfold bf.rightB xP;simp only[d,bgw,bf0];omega
 ·show k*dI q<=t;omega
 show k*dI q+q.size<=1100585369600;omega
theorem rY {q:bu} {key:List (BitVec 8)} {t:Int} {x:bf}(a:x∈rX q key t):q.rightB=true/\x.rightB=true/\x.lo<=t/\t<x.hi/\x.hi<=1100585369600/\x.key=key:=by
 unfold rX at a
 split at a
 ·rename_i b;simp only[lm,bf8,bf0]at b;obtain⟨⟨c,d⟩,e,h⟩:=b;obtain⟨p,r,s,u,y⟩:=gX c
  split at a
  ·rw[List.mem_singleton.1 a];refine⟨c,?_,Int.le_refl _,?_,?_,rfl⟩
   ·unfold bf.rightB;simp only[d,bgw,bf0];omega
   ·show t<t+q.size;omega
   show t+q.size<=1100585369600;omega
  obtain⟨i,hi,rfl⟩:=List.mem_map.1 a;have j:=List.mem_range.1 hi;obtain⟨z,D,E⟩:=rU c e;obtain⟨l,m,n,o⟩:=NC c d e h (k:=Gg q t+(i:Int)) (by omega) (by omega)
  exact⟨c,l,m,n,o,rfl⟩
 simp at a
theorem qw {x:bf}(h:x.rightB=true):x.bytes.length<=100:=by
 obtain⟨a,b,c,d,e,j,k⟩:=bU h;have l:=wordL_length x.key.length;have m:=wordL_length x.lo.toNat;have n:=wordL_length (x.hi-x.lo).toNat;simp only[bf.bytes,textL,numberL,bft];omega
theorem qW:∀x y z:List UInt8,Op.bytesLess x y=true->Op.bytesLess y z=true->Op.bytesLess x z=true
 | [],[],_,h,_=>by simp[Op.bytesLess]at h
 | [],_::_,[],_,h=>by simp[Op.bytesLess]at h
 | [],_::_,_::_,_,_=>rfl
 | _::_,[],_,h,_=>by simp[Op.bytesLess]at h
 | _::_,_::_,[],_,h=>by simp[Op.bytesLess]at h
 | a::x,b::y,c::z,d,e=>by
  have j:=qW x y z;simp only[Op.bytesLess,Bool.or_eq_true,bf0,bf8,beq_iff_eq]at d e ⊢;rcases d with d | ⟨rfl,d⟩ <;> rcases e with e | ⟨rfl,e⟩
  ·left
   exact UInt8.lt_trans d e
  ·exact .inl d
  ·exact .inl e
  exact .inr ⟨rfl,j d e⟩
theorem D7 {a b:List (BitVec 8)}(h:(strOf a).toList=(strOf b).toList):a=b:=by
 have e:=str_eq a b;rw[h,beq_self_eq_true]at e;exact bgh e.symm
theorem QC(a b:List (BitVec 8)):zy a b=true∨a=b∨zy b a=true:=by
 have h:=jr (strOf a).toList (strOf b).toList;unfold zy
 cases h1:Op.bytesLess (strOf a).toList (strOf b).toList with
 | true=>exact .inl rfl
 | false=>
  rw[h1]at h;by_cases e:a=b
  ·exact .inr (.inl e)
  right;right
  have:((strOf a).toList==(strOf b).toList)=false:=by
   rw[beq_eq_false_iff_ne];exact λc=>e (D7 c)
  rw[this]at h;exact h.symm
theorem tC {a b c:List (BitVec 8)}(d:zy a b=true)(e:zy b c=true):zy a c=true:=qW _ _ _ d e
theorem lD(a:List (BitVec 8)):zy a a=false:=by
 have h:=jr (strOf a).toList (strOf a).toList;rw[beq_self_eq_true,Bool.not_true,Bool.and_false]at h;exact h.symm
theorem QB {a b:List (BitVec 8)}(h:zy a b=true):zy b a=false:=by
 cases h2:zy b a with
 | false=>rfl
 | true=>
  have:=tC h h2;rw[lD]at this;cases this
def bK(a b:bf):Prop:=zy a.key b.key=true∨a.key=b.key/\(a.lo<b.lo∨a.lo=b.lo/\a.hi<b.hi)
theorem nM(a b:Int):a<b/\mD a b=-1∨a=b/\mD a b=0∨b<a/\mD a b=1:=by
 unfold mD
 split
 ·exact .inl ⟨by assumption,rfl⟩
 split
 ·exact .inr (.inr ⟨by assumption,rfl⟩)
 exact .inr (.inl ⟨by omega,rfl⟩)
theorem BJ(a b:List (BitVec 8)):zy a b=true/\vZ a b=-1∨a=b/\vZ a b=0∨zy b a=true/\vZ a b=1:=by
 rcases QC a b with h | rfl | h
 ·exact .inl ⟨h,by rw[vZ,if_pos h]⟩
 ·exact .inr (.inl ⟨rfl,QQ a⟩)
 exact .inr (.inr ⟨h,by rw[vZ,QB h,if_neg (by decide),if_pos h]⟩)
theorem mF(a b:bf):jm a b=-1/\bK a b∨jm a b=0/\a=b∨jm a b=1/\bK b a:=by
 obtain⟨k,l,h⟩:=a;obtain⟨m,n,o⟩:=b;unfold jm bK;simp only;rcases BJ k m with⟨c,e⟩ | ⟨rfl,e⟩ | ⟨c,e⟩
 ·left;exact⟨by rw[e];rfl,.inl c⟩
 ·rcases nM l n with⟨c,d⟩ | ⟨rfl,d⟩ | ⟨c,d⟩
  ·left;exact⟨by rw[e,d];rfl,.inr ⟨rfl,.inl c⟩⟩
  ·rcases nM h o with⟨c,j⟩ | ⟨rfl,j⟩ | ⟨c,j⟩
   ·left;exact⟨by rw[e,d,j];rfl,.inr ⟨rfl,.inr ⟨rfl,c⟩⟩⟩
   ·right;left;exact⟨by rw[e,d,j];rfl,rfl⟩
   right;right;exact⟨by rw[e,d,j];rfl,.inr ⟨rfl,.inr ⟨rfl,c⟩⟩⟩
  right;right;exact⟨by rw[e,d];rfl,.inr ⟨rfl,.inl c⟩⟩
 right;right;exact⟨by rw[e];rfl,.inl c⟩
theorem bK.trans {a b c:bf}(e:bK a b)(d:bK b c):bK a c:=by
 unfold bK at*;rcases e with e | ⟨j,e⟩
 ·rcases d with d | ⟨h,d⟩
  ·exact .inl (tC e d)
  exact .inl (h ▸ e)
 rcases d with d | ⟨h,d⟩
 ·exact .inl (j ▸ d)
 exact .inr ⟨j.trans h,by omega⟩
theorem bK.irrefl {a:bf}(h:bK a a):False:=by
 rcases h with h | ⟨_,h⟩
 ·rw[lD]at h;cases h
 omega
theorem bK.asymm {a b:bf}(c:bK a b)(d:bK b a):False:=(c.trans d).irrefl
theorem jQ(a b:bf):jm a b<0↔bK a b:=by
 rcases mF a b with⟨e,h⟩ | ⟨e,rfl⟩ | ⟨e,h⟩
 ·exact⟨λ_=>h,λ_=>by omega⟩
 ·exact⟨λh=>by omega,λh=>h.irrefl.elim⟩
 exact⟨λh=>by omega,λc=>(h.asymm c).elim⟩
theorem lZ {a b:bf}(h:a≠b):bK a b∨bK b a:=by
 rcases mF a b with⟨_,c⟩ | ⟨_,rfl⟩ | ⟨_,c⟩
 ·exact .inl c
 ·exact(h rfl).elim
 exact .inr c
instance (a b:bf):Decidable (bK a b):=decidable_of_iff (jm a b<0) (jQ a b)
def dP(a b:bf):Bool:=a.rightB && b.rightB && decide (a.key=b.key/\a.lo<=b.hi/\b.lo<=a.hi)
theorem dU(a b:bf):dP a b=true↔a.rightB=true/\b.rightB=true/\a.key=b.key/\a.lo<=b.hi/\b.lo<=a.hi:=by
 simp only[dP,bf8,bf0,and_assoc]
theorem rQ(a b:bf):dP a b=dP b a:=by
 have h:dP a b=true↔dP b a=true:=by
  rw[dU,dU];exact⟨λ⟨c,d,e,j,k⟩=>⟨d,c,e.symm,k,j⟩,λ⟨c,d,e,j,k⟩=>⟨d,c,e.symm,k,j⟩⟩
 cases c:dP a b <;> cases d:dP b a <;> simp_all
def dM(l:List bf):Prop:=(∀x∈l,x.rightB=true)/\l.Pairwise (λa b=>bK a b/\dP a b=false)
instance (l:List bf):Decidable (dM l):=by unfold dM;infer_instance
def CJ(l:List bf)(k:List (BitVec 8))(p:Int):Prop:=∃x∈l,x.key=k/\2*x.lo<=p/\p<=2*x.hi
theorem zJ(l m:List bf)(k:List (BitVec 8))(p:Int):CJ (l++m) k p↔CJ l k p∨CJ m k p:=by
 simp only[CJ,bgg];constructor
 ·rintro⟨x,h | h,a⟩
  ·exact .inl ⟨x,h,a⟩
  exact .inr ⟨x,h,a⟩
 rintro(⟨x,h,a⟩ | ⟨x,h,a⟩)
 ·exact⟨x,.inl h,a⟩
 exact⟨x,.inr h,a⟩
theorem NL(x:bf)(k:List (BitVec 8))(p:Int):CJ [x] k p↔x.key=k/\2*x.lo<=p/\p<=2*x.hi:=by simp[CJ]
theorem NK {l m:List bf}(h:∀x,x∈l↔x∈m)(k:List (BitVec 8))(p:Int):CJ l k p↔CJ m k p:=by
 simp only[CJ,h]
theorem dM.apart {l:List bf}(h:dM l) {x y:bf}(e:x∈l)(k:y∈l)(b:x≠y):dP x y=false:=by
 obtain⟨i,c,rfl⟩:=List.getElem_of_mem e;obtain⟨j,d,rfl⟩:=List.getElem_of_mem k;rcases Nat.lt_trichotomy i j with a | rfl | a
 ·exact(List.pairwise_iff_getElem.1 h.2 i j c d a).2
 ·exact(b rfl).elim
 rw[rQ];exact(List.pairwise_iff_getElem.1 h.2 j i d c a).2
theorem dM.within {l m:List bf}(a:dM l)(u:∀x∈m,x.rightB=true)(r:∀k p,CJ m k p->CJ l k p) {x y:bf}(h:x∈l)(o:y∈m)(s:y.key=x.key)(D:y.lo<=x.hi)(E:x.lo<=y.hi):x.lo<=y.lo/\y.hi<=x.hi:=by
 have F:=bU (a.1 x h);have I:=bU (u y o);constructor
 ·refine Int.not_lt.1 λq=>?_;obtain⟨v,b,c,j,n⟩:=r x.key (2*x.lo - 1) ⟨y,o,s,by omega,by omega⟩
  have z:=bU (a.1 v b);have d:v≠x:=λe=>by rw[e]at j;omega
  have:=a.apart b h d;rw[Bool.eq_false_iff]at this;exact this ((dU _ _).2 ⟨a.1 v b,a.1 x h,c,by omega,by omega⟩)
 refine Int.not_lt.1 λq=>?_;obtain⟨v,b,c,j,n⟩:=r x.key (2*x.hi+1) ⟨y,o,s,by omega,by omega⟩
 have z:=bU (a.1 v b);have d:v≠x:=λe=>by rw[e]at n;omega
 have:=a.apart b h d;rw[Bool.eq_false_iff]at this;exact this ((dU _ _).2 ⟨a.1 v b,a.1 x h,c,by omega,by omega⟩)
theorem dM.mem {l m:List bf}(c:dM l)(d:dM m)(h:∀k p,CJ l k p↔CJ m k p) {x:bf}(b:x∈l):x∈m:=by
 have E:=bU (c.1 x b);obtain⟨y,j,a,n,o⟩:=(h x.key (2*x.lo)).1 ⟨x,b,rfl,by omega,by omega⟩
 have F:=bU (d.1 y j);obtain⟨q,r⟩:=c.within d.1 (λk p=>(h k p).2) b j a (by omega) (by omega)
 obtain⟨s,u⟩:=d.within c.1 (λk p=>(h k p).1) j b a.symm (by omega) (by omega)
 have e:x=y:=by
  obtain⟨k,lo,I⟩:=x;obtain⟨J,z,D⟩:=y;simp only at a q r s u;simp only[bf.mk.injEq];exact⟨a.symm,by omega,by omega⟩
 rwa [e]
theorem Nr {l m:List bf}:l.Pairwise bK->m.Pairwise bK->(∀x,x∈l↔x∈m)->l=m:=by
 induction l generalizing m with
 | nil=>
  intro _ _ h
  cases m with
  | nil=>rfl
  | cons y m=>exact absurd ((h y).2 (by simp)) (by simp)
 | cons x l ih=>
  intro b c h
  cases m with
  | nil=>exact absurd ((h x).1 (by simp)) (by simp)
  | cons y m=>
   rw[List.pairwise_cons]at b c;have e:x=y:=by
    rcases List.mem_cons.1 ((h x).1 (by simp))with e | k
    ·exact e
    rcases List.mem_cons.1 ((h y).2 (by simp))with e | n
    ·exact e.symm
    exact((c.1 x k).asymm (b.1 y n)).elim
   subst e
   congr 1
   refine ih b.2 c.2 λz=>?_;have d:=h z;simp only[bf2]at d;constructor
   ·intro a;rcases d.1 (.inr a)with rfl | j
    ·exact((b.1 z a).irrefl).elim
    exact j
   intro a;rcases d.2 (.inr a)with rfl | j
   ·exact((c.1 z a).irrefl).elim
   exact j
theorem dM.ext {l m:List bf}(a:dM l)(b:dM m)(c:∀k p,CJ l k p↔CJ m k p):l=m:=
 Nr (a.2.imp (λh=>h.1)) (b.2.imp (λh=>h.1)) λ_=>⟨λh=>a.mem b c h,λh=>b.mem a (λk p=>(c k p).symm) h⟩
def jF(w:bf)(x o:bf):bf:=if dP o w=true then ⟨x.key,min x.lo o.lo,max x.hi o.hi⟩else x
def became(l:List bf)(w:bf):bf:=l.foldl (jF w) w
def kF(l:List bf)(w:bf):List bf:=l.filter λo=> !dP o w
def vg(l:List bf)(w:bf):List Nat:=(List.range l.length).filter λi=>dP (l.getD i bF) w
theorem Dz(w:bf):∀(l:List bf) (x:bf),
  let y:=l.foldl (jF w) x
  y.key=x.key/\y.lo<=x.lo/\x.hi<=y.hi/\(∀o∈l,dP o w=true->y.lo<=o.lo/\o.hi<=y.hi)/\
  (y.lo=x.lo∨∃o∈l,dP o w=true/\y.lo=o.lo)/\(y.hi=x.hi∨∃o∈l,dP o w=true/\y.hi=o.hi)
 | [],x=>⟨rfl,Int.le_refl _,Int.le_refl _,λ_ h=>by simp at h,.inl rfl,.inl rfl⟩
 | o::l,x=>by
  have r:=Dz w l (jF w x o);obtain⟨k,m,n,j,a,b⟩:=r;have u:∀z,List.foldl (jF w) x (o::l)=z↔List.foldl (jF w) (jF w x o) l=z:=λz=>Iff.rfl;simp only;rw[show List.foldl (jF w) x (o::l)=List.foldl (jF w) (jF w x o) l from rfl]
  generalize List.foldl (jF w) (jF w x o) l=y at k m n j a b
  by_cases q:dP o w=true
  ·have e:jF w x o=⟨x.key,min x.lo o.lo,max x.hi o.hi⟩:=by rw[jF,if_pos q]
   rw[e]at k m n a b;simp only at k m n a b;refine⟨k,by clear j a b;omega,by clear j a b;omega,?_,?_,?_⟩
   ·intro p c d;rcases List.mem_cons.1 c with rfl | c
    ·clear j a b;omega
    exact j p c d
   ·clear j b;rcases a with a | ⟨p,c,d,a⟩
    ·by_cases s:x.lo<=o.lo
     ·exact .inl (by omega)
     exact .inr ⟨o,by simp,q,by omega⟩
    exact .inr ⟨p,by simp[c],d,a⟩
   clear j a;rcases b with b | ⟨p,c,d,b⟩
   ·by_cases s:o.hi<=x.hi
    ·exact .inl (by omega)
    exact .inr ⟨o,by simp,q,by omega⟩
   exact .inr ⟨p,by simp[c],d,b⟩
  have e:jF w x o=x:=by rw[jF,if_neg q]
  rw[e]at k m n a b;refine⟨k,m,n,?_,?_,?_⟩
  ·intro p c d;rcases List.mem_cons.1 c with rfl | c
   ·exact(q d).elim
   exact j p c d
  ·rcases a with a | ⟨p,c,d,a⟩
   ·exact .inl a
   exact .inr ⟨p,by simp[c],d,a⟩
  rcases b with b | ⟨p,c,d,b⟩
  ·exact .inl b
  exact .inr ⟨p,by simp[c],d,b⟩
theorem gZ {l:List bf} {w:bf}(j:w.rightB=true):
  (became l w).rightB=true/\(became l w).key=w.key/\(became l w).lo<=w.lo/\w.hi<=(became l w).hi/\(∀o∈l,dP o w=true->(became l w).lo<=o.lo/\o.hi<=(became l w).hi)/\
  ((became l w).lo=w.lo∨∃o∈l,dP o w=true/\(became l w).lo=o.lo)/\((became l w).hi=w.hi∨∃o∈l,dP o w=true/\(became l w).hi=o.hi):=by
 obtain⟨d,e,h,k,a,b⟩:=Dz w l w;obtain⟨m,u,x,y,z,D,E⟩:=bU j;refine⟨?_,d,e,h,k,a,b⟩;have n:0<=(became l w).lo:=by
  rcases a with a | ⟨o,_,c,a⟩
  ·show 0<=(List.foldl (jF w) w l).lo;omega
  have:=bU ((dU _ _).1 c).1;show 0<=(List.foldl (jF w) w l).lo;omega
 have p:(became l w).hi<=4398046511104:=by
  rcases b with b | ⟨o,_,c,b⟩
  ·show(List.foldl (jF w) w l).hi<=_;omega
  have:=bU ((dU _ _).1 c).1;show(List.foldl (jF w) w l).hi<=_;omega
 have q:(became l w).key=w.key:=d;have r:(became l w).lo<=w.lo:=e;have s:w.hi<=(became l w).hi:=h;rw[bf.rightB,q,m,bgw,bf0];omega
theorem mW {l:List bf} {w x:bf}:x∈kF l w↔x∈l/\dP x w=false:=by
 rw[kF,bgv,Bool.not_eq_true']
theorem ww {l:List bf} {w x:bf}(s:dM l)(k:w.rightB=true)(u:x∈kF l w):dP x (became l w)=false:=by
 obtain⟨N,y,O,Q,R,z,D⟩:=gZ (l:=l) k;obtain⟨m,b⟩:=mW.1 u;rw[Bool.eq_false_iff]at b ⊢;intro E;obtain⟨n,S,F,U,Y⟩:=(dU _ _).1 E;have Z:=bU n;have I:=bU k;have c:x.key=w.key:=F.trans y;have J:¬(x.lo<=w.hi/\w.lo<=x.hi):=λh=>b ((dU _ _).2 ⟨n,k,c,h.1,h.2⟩);have d:∀o∈l,dP o w=true->x.hi<o.lo∨o.hi<x.lo:=by
  intro o j a;have p:x≠o:=λe=>b (e ▸ a);have h:=s.apart m j p;rw[Bool.eq_false_iff]at h;obtain⟨K,_,L,_,_⟩:=(dU _ _).1 a;by_cases q:x.hi<o.lo
  ·exact .inl q
  right
  refine Int.not_le.1 λr=>h ((dU _ _).2 ⟨n,K,c.trans L.symm,r,by omega⟩)
 by_cases hc:x.hi<w.lo
 ·rcases z with e | ⟨o,j,a,e⟩
  ·omega
  have q:=d o j a;have r:=(dU _ _).1 a;omega
 have M:w.hi<x.lo:=by omega
 rcases D with e | ⟨o,j,a,e⟩
 ·omega
 have q:=d o j a;have r:=(dU _ _).1 a;omega
theorem Ji {l:List bf} {w:bf}(u:w.rightB=true)(k:List (BitVec 8))(p:Int):CJ (kF l w++[became l w]) k p↔CJ (l++[w]) k p:=by
 obtain⟨y,c,J,K,z,D,E⟩:=gZ (l:=l) u;have L:=bU y;have F:=bU u;rw[zJ,zJ,NL,NL];constructor
 ·rintro(⟨x,d,h⟩ | ⟨a,m,n⟩)
  ·exact .inl ⟨x,(mW.1 d).1,h⟩
  by_cases I:2*w.lo<=p
  ·by_cases q:p<=2*w.hi
   ·exact .inr ⟨c.symm.trans a,I,q⟩
   rcases E with e | ⟨o,r,b,e⟩
   ·omega
   have j:=(dU _ _).1 b;exact .inl ⟨o,r,by rw[j.2.2.1,<-c];exact a,by omega,by omega⟩
  rcases D with e | ⟨o,r,b,e⟩
  ·omega
  have j:=(dU _ _).1 b;exact .inl ⟨o,r,by rw[j.2.2.1,<-c];exact a,by omega,by omega⟩
 rintro(⟨x,d,a,m,n⟩ | ⟨a,m,n⟩)
 ·cases hj:dP x w with
  | false=>exact .inl ⟨x,mW.2 ⟨d,hj⟩,a,m,n⟩
  | true=>
   have j:=z x d hj;have s:=(dU _ _).1 hj;exact .inr ⟨by rw[c,<-s.2.2.1];exact a,by omega,by omega⟩
 exact .inr ⟨c.trans a,by omega,by omega⟩
def zA(w:bf)(out:List bf):Nat->Nat
 | 0=>0
 | n+1=>if jm w (out.getD n bF)<0 then zA w out n else n+1
def F8(out:List bf)(w:bf):List bf:=out.take (zA w out out.length)++[w]++out.drop (zA w out out.length)
def tV(l:List bf):List bf:=l.foldl F8 []
theorem Po(w:bf)(out:List bf):∀n,zA w out n<=n
 | 0=>bfx _
 | n+1=>by
  rw[zA]
  split
  ·have:=Po w out n;omega
  exact bfx _
theorem DR(w:bf)(out:List bf):∀n,(∀i,zA w out n<=i->i<n->bK w (out.getD i bF))/\(∀i,zA w out n=i+1->¬bK w (out.getD i bF))
 | 0=>⟨λi _ h=>absurd h (Nat.not_lt_zero _),λi h=>by simp[zA]at h⟩
 | n+1=>by
  obtain⟨b,c⟩:=DR w out n;rw[zA];by_cases h:jm w (out.getD n bF)<0
  ·rw[if_pos h];refine⟨λi a d=>?_,c⟩;by_cases e:i=n
   ·subst e;exact(jQ _ _).1 h
   exact b i a (by omega)
  rw[if_neg h];refine⟨λi a d=>by omega,λi a=>?_⟩
  obtain rfl:i=n:=by omega
  exact λj=>h ((jQ _ _).2 j)
theorem Qy(out:List bf)(w:bf):(F8 out w).Perm (w::out):=by
 rw[F8,bgz];refine List.perm_middle.trans ?_;show(w::(List.take (zA w out out.length) out++List.drop (zA w out out.length) out)).Perm _;rw[List.take_append_drop]
theorem Js {out:List bf} {w:bf}(m:out.Pairwise bK)(s:w ∉ out):(F8 out w).Pairwise bK:=by
 unfold F8;have I:=Po w out out.length;obtain⟨u,z⟩:=DR w out out.length
 generalize zA w out out.length=p at I u z
 have d:=List.pairwise_iff_getElem.1 m;have D:∀i (h:i<out.length),out.getD i bF=out[i]:=λi h=>by simp[h]
 have k:∀i (h:i<out.length),i<p->bK out[i] w:=by
  intro i a l;have K:out[i]≠w:=λe=>s (e ▸ List.getElem_mem a);have b:bK out[p-1] w:=by
   have:=z (p-1) (by omega)
   rw[D _ (by omega)]at this
   have n:out[p-1]≠w:=λe=>s (e ▸ List.getElem_mem (by omega))
   exact(lZ n).resolve_right this
  by_cases e:i=p-1
  ·subst e;exact b
  exact(d i (p-1) a (by omega) (by omega)).trans b
 have o:∀i (h:i<out.length),p<=i->bK w out[i]:=by
  intro i a l;have:=u i l a
  rwa [D _ a]at this
 rw[List.pairwise_append,List.pairwise_append];have E:∀x∈out.take p,∃i,∃h:i<out.length,i<p/\out[i]=x:=by
  intro x c;obtain⟨i,a,e⟩:=List.getElem_of_mem c;rw[bga]at a;exact⟨i,by omega,by omega,by rw[<-e,List.getElem_take]⟩
 have J:∀x∈out.drop p,∃i,∃h:i<out.length,p<=i/\out[i]=x:=by
  intro x c;obtain⟨i,a,e⟩:=List.getElem_of_mem c;rw[bgx]at a;exact⟨p+i,by omega,by omega,by rw[<-e,List.getElem_drop]⟩
 refine⟨⟨m.sublist (List.take_sublist _ _),by simp,?_⟩,m.sublist (List.drop_sublist _ _),?_⟩
 ·intro x c y q;obtain⟨i,a,l,rfl⟩:=E x c;rw[List.mem_singleton.1 q];exact k i a l
 intro x c y q;obtain⟨j,F,r,rfl⟩:=J y q;rcases List.mem_append.1 c with c | c
 ·obtain⟨i,a,l,rfl⟩:=E x c;exact d i j a F (by omega)
 rw[List.mem_singleton.1 c];exact o j F r
theorem xJ:∀(l out:List bf),out.Pairwise bK->(out++l).Nodup->(l.foldl F8 out).Pairwise bK/\(l.foldl F8 out).Perm (out++l)
 | [],out,h,_=>⟨h,by simp⟩
 | w::l,out,h,hn=>by
  have b:w ∉ out:=λb=>by
   rw[List.nodup_append]at hn;exact hn.2.2 w b w (by simp) rfl
  have c:=Qy out w;have a:(F8 out w++l).Perm (out++w::l):=by
   refine(List.Perm.append_right l c).trans ?_;exact List.perm_middle.symm
  obtain⟨d,e⟩:=xJ l (F8 out w) (Js h b) (a.nodup_iff.2 hn);exact⟨d,e.trans a⟩
theorem Gy {l:List bf}(a:l.Nodup):(tV l).Pairwise bK/\(tV l).Perm l:=by
 have:=xJ l [] List.Pairwise.nil (by simpa using a)
 exact⟨this.1,this.2⟩
theorem zB {l:List bf}(j:∀x∈l,x.rightB=true)(o:l.Pairwise (λa b=>dP a b=false)):dM (tV l)/\∀k p,CJ (tV l) k p↔CJ l k p:=by
 have c:∀x∈l,dP x x=true:=λx d=>by
  have r:=bU (j x d);exact(dU _ _).2 ⟨j x d,j x d,rfl,by omega,by omega⟩
 have q:l.Nodup:=by
  rw[List.nodup_iff_pairwise_ne];refine(List.Pairwise.imp_of_mem ?_ o);intro a b z s h e;rw[e,c b s]at h;cases h
 obtain⟨u,m⟩:=Gy q;have n:(tV l).Pairwise (λa b=>dP a b=false):=m.symm.pairwise o (fun {x y} h=>by rw[rQ];exact h)
 refine⟨⟨λx d=>j x (m.mem_iff.1 d),?_⟩,NK (λx=>m.mem_iff)⟩;exact u.and n
def qh(l:List bf)(w:bf):List bf:=tV (kF l w++[became l w])
theorem wJ {l:List bf} {w:bf}(d:dM l)(e:w.rightB=true):dM (qh l w)/\∀k p,CJ (qh l w) k p↔CJ (l++[w]) k p:=by
 have j:∀x∈kF l w++[became l w],x.rightB=true:=by
  intro x c;rcases List.mem_append.1 c with c | c
  ·exact d.1 x (mW.1 c).1
  rw[List.mem_singleton.1 c];exact(gZ e).1
 have m:(kF l w++[became l w]).Pairwise (λa b=>dP a b=false):=by
  rw[List.pairwise_append];refine⟨(d.2.imp (λh=>h.2)).sublist (List.filter_sublist),by simp,?_⟩
  intro x c y n;rw[List.mem_singleton.1 n];exact ww d e c
 obtain⟨o,q⟩:=zB j m;exact⟨o,λk p=>(q k p).trans (Ji e k p)⟩
def pq(l:List bf)(w:bf):List bf × bf × List Nat:=
 if dM l/\w.rightB=true then (qh l w,became l w,vg l w)else (l,bF,[])
theorem dM.nil:dM []:=⟨by simp,List.Pairwise.nil⟩
end Go.Proofs.YtgfmbkoieacgoaaGreatDoor
set_option maxRecDepth 100000
set_option maxHeartbeats 2000000
namespace Go.Proofs.YtgfmbkoieacgoaaGreatDoor
open Go Go.RowKit Go.Proofs.Tryz
def VV(l:List UInt8):Prop:=∀c∈l,c≠46
theorem LZ(a r:List UInt8)(h:VV a):Lib.index (a++46::46::r) [46,46]=(a.length:Int):=by
 refine Lib.index_first (by simp) (by simp[Lib.occAt]) λj b=>?_
 rw[Bool.eq_false_iff];intro c;have:=Lib.occAt_head (s:=a++46::46::r) (t:=[46]) rfl c;rw[List.getElem?_append_left b]at this;exact h _ (bf3 this) rfl
def vU(s:List (BitVec 8)):List (BitVec 8) × List (BitVec 8):=(bvL (Lib.cut (lvB s) [46,46]).1,bvL (Lib.cut (lvB s) [46,46]).2.1)
theorem TE {a:List (BitVec 8)}(h:∀c∈a,c≠46):VV (lvB a):=by
 intro c d e;obtain⟨x,b,rfl⟩:=List.mem_map.1 d;refine h x b (BitVec.eq_of_toNat_eq ?_);have j:(UInt8.ofNat x.toNat).toNat=46:=by rw[e];rfl
 have b:=x.isLt;have k:(UInt8.ofNat x.toNat).toNat=x.toNat:=by
  rw[UInt8.toNat_ofNat'];exact Nat.mod_eq_of_lt b
 rw[<-k,j];rfl
theorem Qe(a r:List (BitVec 8))(h:∀c∈a,c≠46):vU (a++kC++r)=(a,r):=by
 have e:lvB (a++kC++r)=lvB a++46::46::lvB r:=by
  rw[lvB_append,lvB_append,bgz];rfl
 have b:=LZ (lvB a) (lvB r) (TE h);unfold vU;rw[e];unfold Lib.cut;rw[b,if_pos (by omega)]
 simp[bvL_lvB]
theorem SY(s:List (BitVec 8)):(vU s).1.length<=s.length/\(vU s).2.length<=s.length:=by
 have a:∀l:List UInt8,(bvL l).length=l.length:=λl=>by simp[bvL]
 have b:=lvB_length s;unfold vU Lib.cut
 split
 ·simp only[a,bga,bgx];omega
 simp only[a];exact⟨by omega,by simp⟩
theorem Ry(w:World)(s:List (BitVec 8))(l:s.length<=1000000)(b:yP w):
  Calls prog 111 #[Sv s,.string ⟨#[46,46]⟩] w λe w'=>(∃z,e=.returned (.tuple #[Sv (vU s).1,Sv (vU s).2,.bool z]))/\∃n,w'=w.drewN n:=by
 obtain⟨m,c⟩:=b;have a:(⟨(lvB s).toArray⟩:ByteArray).size=s.length:=by
  show(lvB s).toArray.size=_;rw[List.size_toArray,lvB_length]
 have h:=Tryz.strings_Cut ⟨(lvB s).toArray⟩ ⟨#[46,46]⟩ m w (by rw[a];omega) c
 rw[<-Sv_lv]at h;rw[show(⟨(lvB s).toArray⟩:ByteArray).data.toList=lvB s from rfl,show(⟨#[46,46]⟩:ByteArray).data.toList=[46,46]from rfl]at h;refine h.mono ?_;rintro e w' ⟨rfl,d⟩;refine⟨⟨(Lib.cut (lvB s) [46,46]).2.2,?_⟩,d⟩;have j:Sv (vU s).1=.string ⟨(Lib.cut (lvB s) [46,46]).1.toArray⟩:=by rw[Sv_lv,vU,lvB_bvL]
 have k:Sv (vU s).2=.string ⟨(Lib.cut (lvB s) [46,46]).2.1.toArray⟩:=by rw[Sv_lv,vU,lvB_bvL]
 rw[j,k]
def zW(s:List (BitVec 8)):bf:=⟨(pM s).1,numL (vU (pM s).2).1,numL (vU (pM s).2).2⟩
theorem BH(n:Int)(h:0<=n/\n<=4398046511104):numL (itoaL n)=n:=by
 have a:(Lib.itoa n).length<=18:=by
  unfold Lib.itoa
  split
  ·have:=digits_len 12 n.natAbs (by omega)
   simp only[bgy];omega
  have:=digits_len 12 n.toNat (by omega)
  omega
 rw[numL,itoaL_bv,lvB_bvL,Lib.atoiAll_short _ a,atoi_itoa];rfl
theorem Le {x:bf}(h:x.rightB=true):zW x.text=x:=by
 obtain⟨b,c,d,j,k,l,m⟩:=bU h;have a:=y9 h;have e:x.text=x.key++32::(itoaL x.lo++kC++itoaL x.hi):=by simp[bf.text,bBlank]
 unfold zW;rw[e,Dp _ _ a];simp only;rw[Qe _ _ (rJ _)];simp only;rw[BH x.lo (by omega),BH x.hi (by omega)]
theorem Lj(s:List (BitVec 8)):parseW s=if (zW s).rightB=true/\(zW s).text=s then (zW s,true)else (bF,false):=
 (JQ s (zW s) (λx a e=>by rw[<-e];exact Le a)).symm
theorem zn(w:World)(l:List (BitVec 8))(o:l.length<=1000000)(p:lL w):Calls prog 171 #[Sv l] w (Below0 w (.int .i64 (numL l))):=by
 have d:(⟨(lvB l).toArray⟩:ByteArray).size<=1000000:=by simpa[ByteArray.size,lvB]using o
 have a:numL l=match Lib.atoiAll (lvB l)with | .ok v=>v | _=>0:=rfl
 cases h:Lib.atoiAll (lvB l)with
 | ok v=>
  have c:=Lh (Tryz.strconv_Atoi_ok ⟨(lvB l).toArray⟩ (by omega) v h w)
  rw[<-Sv_lv]at c;rw[a,h];clear h a d o;go_enter func171,ntmps171;go_wp2_with fail;refine c.out.mono ?_;rintro e q ⟨rfl,u⟩;have j:Hid (Bw w q):=by
   rcases u with rfl | ⟨t,rfl⟩
   ·exact Below.refl _ _
   exact Lib.bytesWorld_below w _ t
  clear u;dsimp only;go_wp2_with fail;go_ret;exact⟨rfl,j.out⟩
 | «syntax»=>
  obtain⟨r,k,m⟩:=p 2 (.inl rfl);have c:=Lh (Tryz.strconv_Atoi_syntax ⟨(lvB l).toArray⟩ (by omega) h r w k m)
  rw[<-Sv_lv]at c;rw[a,h];clear h a d o k m p;go_enter func171,ntmps171;go_wp2_with fail;refine c.out.mono ?_;rintro e q ⟨N,rfl,s,b,n⟩;have j:=Lh n;clear s b n;dsimp only;go_wp2_with fail;go_ret;exact⟨rfl,j.out⟩
 | range=>
  obtain⟨r,k,m⟩:=p 3 (.inr rfl);have c:=Lh (Tryz.strconv_Atoi_range ⟨(lvB l).toArray⟩ (by omega) h r w k m)
  rw[<-Sv_lv]at c;rw[a,h];clear h a d o k m p;go_enter func171,ntmps171;go_wp2_with fail;refine c.out.mono ?_;rintro e q ⟨N,rfl,s,b,n⟩;have j:=Lh n;clear s b n;dsimp only;go_wp2_with fail;go_ret;exact⟨rfl,j.out⟩
theorem Nw(w:World)(s:List (BitVec 8))(a:s.length<=1000000):Calls prog 167 #[Sv s] w (Below0 w (Sv s)):=by
 have c:(strOf s).size<=1000000:=by rw[strOf_size];exact a
 have d:Hid (Calls prog 209 #[Sv s] w (Below0 w (Sv s))):=Lh (Tryz.stringslite_Clone (strOf s) w (by omega))
 clear c a;go_enter func167,ntmps167;go_wp2_with fail;refine d.out.mono ?_;rintro e j ⟨rfl,b⟩;have h:=Lh b;clear b;dsimp only;go_wp2_with fail;go_ret;exact⟨rfl,h.out⟩
def nT(w:World):Prop:=PowTab w/\lL w/\∃m,w.cell? ⟨1,0,none⟩=some (.int .i64 m)
theorem nT.below {w w':World}(h:nT w)(a:Bw w w'):nT w':=by
 obtain⟨c,d,m,b⟩:=h;exact⟨c.below a,d.below a,m,(a.cell (block_lt_of_cell b)).trans b⟩
theorem LJ(w:World)(s:List (BitVec 8))(u:s.length<=1000000)(p:nT w):
  Calls prog 112 #[Sv s,.string ⟨#[32]⟩,.int .i64 5] w λe w'=>∃a,e=.returned (.slice (some ⟨w.heap.size,0,none⟩) (wordsOf s).length a)/\WordsAt w' w.heap.size (wordsOf s)/\Bw w w':=by
 obtain⟨_,_,m,q⟩:=p;have c:(⟨(lvB s).toArray⟩:ByteArray).size=s.length:=by
  show(lvB s).toArray.size=_;rw[List.size_toArray,lvB_length]
 have h:=Tryz.strings_SplitN ⟨(lvB s).toArray⟩ ⟨#[32]⟩ 5 m w (by omega) q (by decide) (by decide) (by decide)
 rw[<-Sv_lv,c]at h;have r:=Lib.splitB_data ⟨#[32]⟩ 0 (min 5 (s.length+1)-1) ⟨(lvB s).toArray⟩;have l:wordsOf s=(Lib.splitB ⟨#[32]⟩ 0 (min 5 (s.length+1)-1) ⟨(lvB s).toArray⟩).map λb=>bvL b.data.toList:=by
  have d:(Lib.splitB ⟨#[32]⟩ 0 (min 5 (s.length+1)-1) ⟨(lvB s).toArray⟩).map (·.data.toList)=Lib.splitK [32] 0 (min 5 (s.length+1)-1) (lvB s):=by simpa using r
  rw[wordsOf,<-d,List.map_map];rfl
 refine h.mono ?_;rintro e w' ⟨rfl,rfl⟩;refine⟨_,by rw[l,bfz],?_,(Below.refl _ w).alloc (bfx _) _⟩
 intro j x n;rw[l,bgf,Option.map_eq_some_iff]at n;obtain⟨y,o,rfl⟩:=n;rw[cell_of_row _ _ _ _ _ _ (bg5 w _),Lib.cellsOf];have k:=(List.getElem?_eq_some_iff.1 o).1;rw[List.getElem?_toArray,List.getElem?_append_left (by simpa using k),bgf,o,Option.map_some,<-Sv_bv]
theorem Lu(w:World)(s:List (BitVec 8))(a:s.length<=1000000):Calls prog 167 #[Sv s] w (Below0 w (Sv s)):=by
 have c:(strOf s).size<=1000000:=by rw[strOf_size];exact a
 have d:Hid (Calls prog 209 #[Sv s] w (Below0 w (Sv s))):=Lh (Tryz.stringslite_Clone (strOf s) w (by omega))
 clear c a;go_enter func167,ntmps167;go_wp2_with fail;refine d.out.mono ?_;rintro e j ⟨rfl,b⟩;have h:=Lh b;clear b;dsimp only;go_wp2_with fail;go_ret;exact⟨rfl,h.out⟩
theorem results_cell_row_tmpE {P:Program} {e:Func} {p u:Tmp} {ty:TypeId}(h:e.results=#[.cell p ty,.tmp u])(a:Array Value)(w:World)(g:Nat)(t:TypeId)(b:Array Value)(j:Nat × Nat)(d:TypeDesc)
  (k:a.getD p undef=.pointer (some ⟨g,0,none⟩)) (l:w.heap[g]? =some (.cells b t j))
  (m:P.underlying ty=some d) (n:(match d with | .struct _ | .array _ _=>true | _=>false)=true) (o:(P.info? ty).map (·.size)=some b.size):
  (results e a).run P w=.ok (.tuple #[.agg b,a.getD u undef]) w:=by
 have c:a[p]?.getD undef=.pointer (some ⟨g,0,none⟩):=by simpa using k
 simp[results,h,c,asAddr,run_loadVar_row w g t ty b j d l m n o]
def PS(w:World)(xb:Nat)(x:ItemL)(w':World):Prop:=
 Bw w w'/\w'.heap[w.heap.size]? =some (.cells zeroI.cells 32 (0,0))/\w'.heap[xb]? =some (.cells x.cells 32 (0,0))/\w.heap.size<xb
theorem PS.below {w w' b:World} {c:Nat} {x:ItemL}(h:PS w c x w')(a:Bw w' b):PS w c x b:=
 ⟨h.1.trans (a.mono h.1.size),(a.block _ (Array.getElem?_eq_some_iff.1 h.2.1).1).trans h.2.1,(a.block _ (Array.getElem?_eq_some_iff.1 h.2.2.1).1).trans h.2.2.1,h.2.2.2⟩
theorem PS.cell {w w':World} {a:Nat} {x:ItemL}(h:PS w a x w')(i:Nat) {v:Value}(b:x.cells[i]? =some v):w'.cell? ⟨a,i,none⟩=some v:=by
 rw[cell_of_row _ _ _ _ _ _ h.2.2.1];exact b
theorem PS.fro {w w':World} {a:Nat} {x:ItemL}(h:PS w a x w')(i:Nat):w'.frozen? ⟨a,i,none⟩=false:=frozen_of_row _ _ _ _ _ h.2.2.1
theorem PS.set {w w':World} {a:Nat} {x y:ItemL}(h:PS w a x w')(i:Nat)(v:Value)(b:y.cells=x.cells.setIfInBounds i v):PS w a y (w'.setCell ⟨a,i,none⟩ v):=by
 obtain⟨c,d,e,j⟩:=h;refine⟨c.trans ⟨rfl,rfl,rfl,by simp[World.setCell],λk l=>heap_setCell_other _ _ _ _ (by show k≠a;omega)⟩,(heap_setCell_other _ _ _ _ (by show w.heap.size≠a;omega)).trans d,?_,j⟩
 rw[b];exact heap_setCell_same _ _ _ _ _ _ e
theorem PS.fin {w w':World} {b:Nat} {x:ItemL}(h:PS w b x w')(a:Array Value):Bw w (w'.setRow w.heap.size a)/\(w'.setRow w.heap.size a).heap[w.heap.size]? =some (.cells a 32 (0,0)):=
 ⟨h.1.trans ⟨rfl,rfl,rfl,by simp[World.setRow],λk c=>setRow_other _ _ _ _ (by omega)⟩,setRow_heap _ _ _ _ _ _ h.2.1⟩
theorem LG(w:World)(s:List (BitVec 8))(hl:s.length<=1000000)(hL:nT w):
    Calls prog 110 #[Sv s] w (Below0 w (.tuple #[.agg (parseL s).1.cells,.bool (parseL s).2])):=by
  obtain⟨w0,J⟩:=Nm (w.alloc (.cells #[.int .i64 0,.string ⟨#[]⟩,.int .i64 0,.int .i64 0] 32));have H0:Hid (Bw w w0/\w0.heap[w.heap.size]? =some (.cells zeroI.cells 32 (0,0))):=by
    rw[J];exact Lh ⟨(Below.refl _ w).alloc (bfx _) _,bg5 w _⟩
  have HS:=Lh (LJ w0 s hl (hL.below H0.out.1));have HH:=Lh (bfy hl hL);obtain⟨P,hP⟩:=Nm (Below0 w (.tuple #[.agg (parseL s).1.cells,.bool (parseL s).2]));rw[<-hP];have HP:=Lh hP;obtain⟨N,hN⟩:=Nm ((wordsOf s).length);rw[<-hN]at HS;have af:=Lh hN;clear hl hL hP hN;go_enter func110,ntmps110;go_upto_region 1 with fail;rw[<-J];clear J;go_wp2_with fail;refine HS.out.mono ?_;rintro e w1 ⟨aa,rfl,hW,j⟩;have H1:=Lh (bfy hW (H0.out.1.trans (j.mono H0.out.1.size)));have Ud:=Lh j;clear hW j;obtain⟨x,hx⟩:=Nm (itemW (wordsOf s));have HI:Hid (Calls prog 166 #[.slice (some ⟨w0.heap.size,0,none⟩) N aa] w1 (Below0 w1 (.agg x.cells))):=by
    rw[af.out,hx];exact Lh (Qi w1 w0.heap.size aa (wordsOf s) (wordsOf_ne s) H1.out.1 (λy hy=>bgn (wordsOf_len s y hy) HH.out.1) (HH.out.2.below H1.out.2).2.1)
  have ab:x.key.length<=1000000:=by
    rw[hx];have key:∀ws:List (List (BitVec 8)),(∀y∈ws,y.length<=1000000)->(itemW ws).key.length<=1000000:=by
      intro ws ag;unfold itemW
      split
      · split
        · exact ag _ (by simp)
        · exact bgi _
      · split
        · exact bgi _
        · exact bgi _
      · exact bgi _
    exact key _ (λy hy=>bgn (wordsOf_len s y hy) HH.out.1)
  have HX:Hid (parseL s=if x.rightB=true/\x.text=s then (x,true)else (zeroI,false)):=by
    rw[hx];exact Lh rfl
  have ac:=Lh ab;clear hx ab;obtain⟨r,hr⟩:=Nm (x.rightB);have YP:Hid (∀n,Calls prog 61 #[.agg x.cells] n (Below0 n (.bool r))):=by
    rw[hr];exact Lh (λn=>eright_any n x ac.out)
  have Hr:=Lh hr;clear hr;have HT:Hid (r=true->∀n,Bw w n->Calls prog 63 #[.agg x.cells] n (Below0 n (Sv x.text))):=
    Lh (λh n j=>Dv n x (by rw[<-Hr.out,h]) (HH.out.2.below j).1)
  have ZC:Hid (∀n,Calls prog 167 #[Sv x.key] n (Below0 n (Sv x.key))):=Lh (λn=>Lu n x.key ac.out);obtain⟨T,hT⟩:=Nm (x.text);rw[<-hT]at HT;have uJ:=Lh hT;clear hT;obtain⟨b,key,c,a⟩:=x;unfold ItemL.cells at HI YP HT;simp only at ZC;dsimp only;go_wp2_with fail;refine HI.out.mono ?_;rintro e d ⟨rfl,K⟩;obtain⟨k,L⟩:=Nm (d.heap.size);have H2:Hid (Bw w d/\d.heap[w.heap.size]? =some (.cells zeroI.cells 32 (0,0))/\w.heap.size<d.heap.size):=by
    have h1:=(Ud.out.block _ (Array.getElem?_eq_some_iff.1 H0.out.2).1).trans H0.out.2;have M:=(K.block _ (Array.getElem?_eq_some_iff.1 h1).1).trans h1;exact Lh ⟨H1.out.2.trans (K.mono H1.out.2.size),M,(Array.getElem?_eq_some_iff.1 M).1⟩
  clear K;dsimp only
  first
    | (iterate 1 go_step
       refine bg6 rfl _ _ _ rfl d.heap.size (ItemL.mk b key c a).cells rfl rfl 32 zeroI.cells (bg5 d _) item_size rfl (item_one1 _) ?_)
    | (iterate 2 go_step
       refine bg6 rfl _ _ _ rfl d.heap.size (ItemL.mk b key c a).cells rfl rfl 32 zeroI.cells (bg5 d _) item_size rfl (item_one1 _) ?_)
    | (iterate 3 go_step
       refine bg6 rfl _ _ _ rfl d.heap.size (ItemL.mk b key c a).cells rfl rfl 32 zeroI.cells (bg5 d _) item_size rfl (item_one1 _) ?_)
    | (iterate 4 go_step
       refine bg6 rfl _ _ _ rfl d.heap.size (ItemL.mk b key c a).cells rfl rfl 32 zeroI.cells (bg5 d _) item_size rfl (item_one1 _) ?_)
    | (iterate 5 go_step
       refine bg6 rfl _ _ _ rfl d.heap.size (ItemL.mk b key c a).cells rfl rfl 32 zeroI.cells (bg5 d _) item_size rfl (item_one1 _) ?_)
    | (iterate 6 go_step
       refine bg6 rfl _ _ _ rfl d.heap.size (ItemL.mk b key c a).cells rfl rfl 32 zeroI.cells (bg5 d _) item_size rfl (item_one1 _) ?_)
    | (iterate 7 go_step
       refine bg6 rfl _ _ _ rfl d.heap.size (ItemL.mk b key c a).cells rfl rfl 32 zeroI.cells (bg5 d _) item_size rfl (item_one1 _) ?_)
    | (iterate 8 go_step
       refine bg6 rfl _ _ _ rfl d.heap.size (ItemL.mk b key c a).cells rfl rfl 32 zeroI.cells (bg5 d _) item_size rfl (item_one1 _) ?_)
  obtain⟨R,F⟩:=Nm ((d.alloc (Obj.cells #[.int .i64 0,.string ⟨#[]⟩,.int .i64 0,.int .i64 0] 32)).setRow d.heap.size (ItemL.mk b key c a).cells);rw[<-F];have S:Hid (PS w k (ItemL.mk b key c a) R):=by
    have ha:Bw d (d.alloc (Obj.cells #[.int .i64 0,.string ⟨#[]⟩,.int .i64 0,.int .i64 0] 32)):=(Below.refl _ d).alloc (bfx _) _;have ad:Bw d R:=by
      rw[F];exact ha.trans ⟨rfl,rfl,rfl,by simp[World.setRow],λi hi=>setRow_other _ _ _ _ (by omega)⟩
    have M:=H2.out;refine Lh ⟨M.1.trans (ad.mono M.1.size),(ad.block _ M.2.2).trans M.2.1,?_,by omega⟩
    rw[F,L];exact setRow_heap _ _ _ _ _ _ (bg5 d _)
  rw[<-L];clear F L;have U:R.cell? ⟨k,0,none⟩=_:=S.out.cell 0 rfl;have I:R.cell? ⟨k,1,none⟩=_:=S.out.cell 1 rfl;have d2:R.cell? ⟨k,2,none⟩=_:=S.out.cell 2 rfl;have d3:R.cell? ⟨k,3,none⟩=_:=S.out.cell 3 rfl
  cases r with
  | false=>
    go_wp2_with fail;refine(YP.out _).mono ?_;rintro e Y ⟨rfl,j⟩;have l:=Lh (S.out.below j);clear j U I d2 d3;have HF:Hid (∀o,Bw w o->P (.returned (.tuple #[.agg zeroI.cells,.bool false])) o):=by
      refine Lh (λo h=>?_);rw[HP.out,HX.out,if_neg (by rw[<-Hr.out];simp)]
      exact⟨rfl,h⟩
    dsimp only;go_upto_region 3 with fail;refine bg4 ?_
    first
      | (iterate 1 go_step
         refine bg6 rfl _ _ _ rfl w.heap.size (zeroI).cells rfl rfl 32 zeroI.cells l.out.2.1 item_size rfl (item_one1 _) ?_)
      | (iterate 2 go_step
         refine bg6 rfl _ _ _ rfl w.heap.size (zeroI).cells rfl rfl 32 zeroI.cells l.out.2.1 item_size rfl (item_one1 _) ?_)
      | (iterate 3 go_step
         refine bg6 rfl _ _ _ rfl w.heap.size (zeroI).cells rfl rfl 32 zeroI.cells l.out.2.1 item_size rfl (item_one1 _) ?_)
      | (iterate 4 go_step
         refine bg6 rfl _ _ _ rfl w.heap.size (zeroI).cells rfl rfl 32 zeroI.cells l.out.2.1 item_size rfl (item_one1 _) ?_)
      | (iterate 5 go_step
         refine bg6 rfl _ _ _ rfl w.heap.size (zeroI).cells rfl rfl 32 zeroI.cells l.out.2.1 item_size rfl (item_one1 _) ?_)
      | (iterate 6 go_step
         refine bg6 rfl _ _ _ rfl w.heap.size (zeroI).cells rfl rfl 32 zeroI.cells l.out.2.1 item_size rfl (item_one1 _) ?_)
      | (iterate 7 go_step
         refine bg6 rfl _ _ _ rfl w.heap.size (zeroI).cells rfl rfl 32 zeroI.cells l.out.2.1 item_size rfl (item_one1 _) ?_)
      | (iterate 8 go_step
         refine bg6 rfl _ _ _ rfl w.heap.size (zeroI).cells rfl rfl 32 zeroI.cells l.out.2.1 item_size rfl (item_one1 _) ?_)
    have E:=Lh (l.out.fin (zeroI).cells);obtain⟨o,m⟩:=Nm (Y.setRow w.heap.size (zeroI).cells);rw[<-m]at E ⊢;clear m;go_wp2_with fail;exact bodyPost_ret (v:=.tuple #[.agg (zeroI).cells,.bool false]) ((results_cell_row_tmpE (p:=2) (u:=3) (ty:=32) rfl _ _ w.heap.size 32 (zeroI).cells (0,0) _ rfl E.out.2 underlying32 rfl item_size).trans rfl) rfl (HF.out _ E.out.1)
  | true=>
    go_wp2_with fail;refine(YP.out _).mono ?_;rintro e Y ⟨rfl,j⟩;have l:=Lh (S.out.below j);clear j U I d2 d3;have U:Y.cell? ⟨k,0,none⟩=_:=l.out.cell 0 rfl;have I:Y.cell? ⟨k,1,none⟩=_:=l.out.cell 1 rfl;have d2:Y.cell? ⟨k,2,none⟩=_:=l.out.cell 2 rfl;have d3:Y.cell? ⟨k,3,none⟩=_:=l.out.cell 3 rfl;obtain⟨q,hq⟩:=Nm (decide (T=s));have ah:∀w,(binOp .neq 9 (Sv T) (Sv s)).run prog w=.ok (.bool (!q)) w:=λw=>by rw[hq];exact run_neq_Sv w T s
    have Hq:=Lh hq;clear hq
    cases q with
    | false=>
      have HF:Hid (∀o,Bw w o->P (.returned (.tuple #[.agg zeroI.cells,.bool false])) o):=by
        refine Lh (λo h=>?_);have O:¬T=s:=of_decide_eq_false Hq.out.symm;rw[HP.out,HX.out,if_neg (λh'=>O (uJ.out.trans h'.2))];exact⟨rfl,h⟩
      dsimp only;go_wp2_with fail;refine(HT.out (by trivial) _ l.out.1).mono ?_
      rintro e w5 ⟨rfl,j⟩;have D:=Lh (l.out.below j);clear j U I d2 d3;dsimp only;go_upto_region 3 with fail;refine bg4 ?_
      first
        | (iterate 1 go_step
           refine bg6 rfl _ _ _ rfl w.heap.size (zeroI).cells rfl rfl 32 zeroI.cells D.out.2.1 item_size rfl (item_one1 _) ?_)
        | (iterate 2 go_step
           refine bg6 rfl _ _ _ rfl w.heap.size (zeroI).cells rfl rfl 32 zeroI.cells D.out.2.1 item_size rfl (item_one1 _) ?_)
        | (iterate 3 go_step
           refine bg6 rfl _ _ _ rfl w.heap.size (zeroI).cells rfl rfl 32 zeroI.cells D.out.2.1 item_size rfl (item_one1 _) ?_)
        | (iterate 4 go_step
           refine bg6 rfl _ _ _ rfl w.heap.size (zeroI).cells rfl rfl 32 zeroI.cells D.out.2.1 item_size rfl (item_one1 _) ?_)
        | (iterate 5 go_step
           refine bg6 rfl _ _ _ rfl w.heap.size (zeroI).cells rfl rfl 32 zeroI.cells D.out.2.1 item_size rfl (item_one1 _) ?_)
        | (iterate 6 go_step
           refine bg6 rfl _ _ _ rfl w.heap.size (zeroI).cells rfl rfl 32 zeroI.cells D.out.2.1 item_size rfl (item_one1 _) ?_)
        | (iterate 7 go_step
           refine bg6 rfl _ _ _ rfl w.heap.size (zeroI).cells rfl rfl 32 zeroI.cells D.out.2.1 item_size rfl (item_one1 _) ?_)
        | (iterate 8 go_step
           refine bg6 rfl _ _ _ rfl w.heap.size (zeroI).cells rfl rfl 32 zeroI.cells D.out.2.1 item_size rfl (item_one1 _) ?_)
      have E:=Lh (D.out.fin (zeroI).cells);obtain⟨o,m⟩:=Nm (w5.setRow w.heap.size (zeroI).cells);rw[<-m]at E ⊢;clear m;go_wp2_with fail;exact bodyPost_ret (v:=.tuple #[.agg (zeroI).cells,.bool false]) ((results_cell_row_tmpE (p:=2) (u:=3) (ty:=32) rfl _ _ w.heap.size 32 (zeroI).cells (0,0) _ rfl E.out.2 underlying32 rfl item_size).trans rfl) rfl (HF.out _ E.out.1)
    | true=>
      have HF:Hid (∀o,Bw w o->P (.returned (.tuple #[.agg (ItemL.mk b key c a).cells,.bool true])) o):=by
        refine Lh (λo h=>?_);have O:T=s:=bgh Hq.out.symm;rw[HP.out,HX.out,if_pos ⟨Hr.out.symm,uJ.out.symm.trans O⟩];exact⟨rfl,h⟩
      dsimp only;go_wp2_with fail;refine(HT.out (by trivial) _ l.out.1).mono ?_
      rintro e w5 ⟨rfl,j⟩;have D:=Lh (l.out.below j);clear j U I d2 d3;have I:w5.cell? ⟨k,1,none⟩=_:=D.out.cell 1 rfl;dsimp only;go_wp2_with fail;refine(ZC.out w5).mono ?_;rintro e w6 ⟨rfl,j⟩;have S6:=Lh (D.out.below j);clear j I;have f1:=S6.out.fro 1;have g1:w6.cell? ⟨k,1,none⟩=_:=S6.out.cell 1 rfl;have ae:(storeCells ⟨k,1,none⟩ [Sv key]).run prog w6=.ok () (w6.setCell ⟨k,1,none⟩ (Sv key)):=by
        rw[run_storeCells_Sv];simp[stored,f1,g1]
      dsimp only;go_wp2_with fail;rw[ae];clear ae f1 g1;obtain⟨Z,Q⟩:=Nm (w6.setCell ⟨k,1,none⟩ (Sv key));rw[<-Q];have z:Hid (PS w k (ItemL.mk b key c a) Z):=by rw[Q];exact Lh (S6.out.set 1 (Sv key) rfl)
      clear Q;have U:Z.cell? ⟨k,0,none⟩=_:=z.out.cell 0 rfl;have I:Z.cell? ⟨k,1,none⟩=_:=z.out.cell 1 rfl;have d2:Z.cell? ⟨k,2,none⟩=_:=z.out.cell 2 rfl;have d3:Z.cell? ⟨k,3,none⟩=_:=z.out.cell 3 rfl;go_upto_region 5 with fail;refine bg4 ?_
      first
        | (iterate 1 go_step
           refine bg6 rfl _ _ _ rfl w.heap.size (ItemL.mk b key c a).cells rfl rfl 32 zeroI.cells z.out.2.1 item_size rfl (item_one1 _) ?_)
        | (iterate 2 go_step
           refine bg6 rfl _ _ _ rfl w.heap.size (ItemL.mk b key c a).cells rfl rfl 32 zeroI.cells z.out.2.1 item_size rfl (item_one1 _) ?_)
        | (iterate 3 go_step
           refine bg6 rfl _ _ _ rfl w.heap.size (ItemL.mk b key c a).cells rfl rfl 32 zeroI.cells z.out.2.1 item_size rfl (item_one1 _) ?_)
        | (iterate 4 go_step
           refine bg6 rfl _ _ _ rfl w.heap.size (ItemL.mk b key c a).cells rfl rfl 32 zeroI.cells z.out.2.1 item_size rfl (item_one1 _) ?_)
        | (iterate 5 go_step
           refine bg6 rfl _ _ _ rfl w.heap.size (ItemL.mk b key c a).cells rfl rfl 32 zeroI.cells z.out.2.1 item_size rfl (item_one1 _) ?_)
        | (iterate 6 go_step
           refine bg6 rfl _ _ _ rfl w.heap.size (ItemL.mk b key c a).cells rfl rfl 32 zeroI.cells z.out.2.1 item_size rfl (item_one1 _) ?_)
        | (iterate 7 go_step
           refine bg6 rfl _ _ _ rfl w.heap.size (ItemL.mk b key c a).cells rfl rfl 32 zeroI.cells z.out.2.1 item_size rfl (item_one1 _) ?_)
        | (iterate 8 go_step
           refine bg6 rfl _ _ _ rfl w.heap.size (ItemL.mk b key c a).cells rfl rfl 32 zeroI.cells z.out.2.1 item_size rfl (item_one1 _) ?_)
      have E:=Lh (z.out.fin (ItemL.mk b key c a).cells);obtain⟨o,m⟩:=Nm (Z.setRow w.heap.size (ItemL.mk b key c a).cells);rw[<-m]at E ⊢;clear m;go_wp2_with fail;exact bodyPost_ret (v:=.tuple #[.agg (ItemL.mk b key c a).cells,.bool true]) ((results_cell_row_tmpE (p:=2) (u:=3) (ty:=32) rfl _ _ w.heap.size 32 (ItemL.mk b key c a).cells (0,0) _ rfl E.out.2 underlying32 rfl item_size).trans rfl) rfl (HF.out _ E.out.1)
end Go.Proofs.YtgfmbkoieacgoaaGreatDoor
