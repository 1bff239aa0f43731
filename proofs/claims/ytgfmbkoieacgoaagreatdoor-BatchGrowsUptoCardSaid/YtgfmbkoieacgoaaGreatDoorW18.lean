/- 18. -/
import Derived.Test.YtgfmbkoieacgoaaGreatDoorW15
set_option maxRecDepth 100000
set_option maxHeartbeats 1000000
namespace Go.Proofs.YtgfmbkoieacgoaaGreatDoor
open Go Go.ChangeShapes Go.WideShapes Go.ChangeAt Go.WideMaps Go.WideElems Go.RowKit Go.Proofs.Tryz
structure bn where
 p:bY
 tv:Value
 z:Value
 ht:tv.oneCell'=true
 hz:z.oneCell'=true
def bn.cells(x:bn):Array Value:=#[Sv x.p.w.key,.int .i64 x.p.w.lo,.int .i64 x.p.w.hi,.int .i64 x.p.a.n,.int .i64 x.p.a.a,x.tv,x.z,.int .i64 x.p.r]
def dh:bn:=⟨sH,bM,dC,rfl,rfl⟩
theorem fK:(prog.info? 131).map (·.size)=some 8:=by kernel_rfl
theorem fV(x:bn):x.cells.all (·.oneCell')=true:=by
 rw[Array.all_eq_true'];intro v a;simp only[bn.cells,List.mem_toArray,bf2,bf9,or_false]at a;rcases a with rfl | rfl | rfl | rfl | rfl | rfl | rfl | rfl <;> first | rfl | exact x.ht | exact x.hz
structure bH where
 o:dE
 tv:Value
 ht:tv.oneCell'=true
def bH.cells(x:bH):Array Value:=#[.bool x.o.late,.int .i64 x.o.item.kind,Sv x.o.item.key,.int .i64 x.o.item.time,.int .i64 x.o.item.value,Sv x.o.w.key,.int .i64 x.o.w.lo,.int .i64 x.o.w.hi,.int .i64 x.o.r,x.tv]
def qj:dE:=⟨false,zeroI,bF,0,[]⟩
def dD:bH:=⟨qj,bM,rfl⟩
theorem fE:(prog.info? 37).map (·.size)=some 10:=by kernel_rfl
theorem jl(x:bH):x.cells.all (·.oneCell')=true:=by
 rw[Array.all_eq_true'];intro v a;simp only[bH.cells,List.mem_toArray,bf2,bf9,or_false]at a;rcases a with rfl | rfl | rfl | rfl | rfl | rfl | rfl | rfl | rfl | rfl <;> first | rfl | exact x.ht
def di(w:World)(x:bn):Prop:=bC w x.tv x.p.a.top/\dN x.z x.p.a.u x.p.a.v
def dL(w:World)(x:bH):Prop:=bC w x.tv x.o.v
theorem di.below {w w':World} {x:bn}(h:di w x)(a:Bw w w'):di w' x:=⟨h.1.below a,h.2⟩
theorem dL.below {w w':World} {x:bH}(h:dL w x)(a:Bw w w'):dL w' x:=bC.below h a
def dw(w:World)(b:Nat)(x:bn):Prop:=w.heap[b]? =some (.cells x.cells 131 (0,0))
theorem dw.lt {w:World} {b:Nat} {x:bn}(h:dw w b x):b<w.heap.size:=(Array.getElem?_eq_some_iff.1 h).1
theorem dw.below {w w':World} {b:Nat} {x:bn}(h:dw w b x)(a:Bw w w'):dw w' b x:=(a.block b h.lt).trans h
theorem dw.cell {w:World} {b:Nat} {x:bn}(h:dw w b x)(i:Nat) {v:Value}(a:x.cells[i]? =some v):w.cell? ⟨b,i,none⟩=some v:=by
 rw[cell_of_row _ _ _ _ _ _ h];exact a
theorem dw.fro {w:World} {b:Nat} {x:bn}(h:dw w b x)(i:Nat):w.frozen? ⟨b,i,none⟩=false:=by
 unfold dw at h;simp[World.frozen?,h]
theorem dw.grown {w w':World} {b:Nat} {x:bn} {row:Option Nat}(h:dw w b x)(c:w.grownBy w' row)(a:some b≠row):dw w' b x:=(c.block b h.lt a).trans h
theorem dw.reset {w:World} {b:Nat} {x:bn}(h:dw w b x)(y:bn):dw (w.setRow b y.cells) b y:=setRow_heap w b _ _ _ _ h
theorem jk(w:World)(x:bn):dw ((w.alloc (Obj.cells dh.cells 131)).setRow w.heap.size x.cells) w.heap.size x/\Bw w ((w.alloc (Obj.cells dh.cells 131)).setRow w.heap.size x.cells):=
 ⟨setRow_heap _ _ _ _ _ _ (bg5 w _),((Below.refl _ w).alloc (bfx _) _).trans ⟨rfl,rfl,rfl,by simp[World.setRow],λk a=>setRow_other _ _ _ _ (by omega)⟩⟩
def dS(w:World)(a:Option Addr)(l:List bn):Prop:=
 l=[]∨∃b o,a=some ⟨b,o,none⟩/\∀i x,l[i]? =some x->∀j v,x.cells[j]? =some v->w.cell? ⟨b,o+i*8+j,none⟩=some v
theorem dS.below {w w':World} {a:Option Addr} {l:List bn}(h:dS w a l)(k:Bw w w'):dS w' a l:=by
 rcases h with h | ⟨b,o,h,c⟩
 ·exact .inl h
 exact .inr ⟨b,o,h,λi x d j v e=>(k.cell (block_lt_of_cell (c i x d j v e))).trans (c i x d j v e)⟩
theorem sQ {x:bn} {j:Nat} {v:Value}(h:x.cells[j]? =some v):j<8:=by
 have:=(Array.getElem?_eq_some_iff.1 h).1;simpa[bn.cells]using this
def bT(l:List bn):List Value:=l.flatMap λx=>x.cells.toList
def dm(w:World)(base:Nat)(v:Value)(l:List bn):Prop:=w.ownsRow base 131 8 v l.length (bT l)
theorem cu(l:List bn):(bT l).length=l.length*8:=by
 induction l with
 | nil=>rfl
 | cons x l ih=>
  have:(bT (x::l)).length=8+(bT l).length:=by
   show(x.cells.toList++bT l).length=_;rw[bft];rfl
  rw[this,ih,bgy];omega
theorem ni(l:List bn):∀(i:Nat) (x:bn) (j:Nat) (v:Value),l[i]? =some x->x.cells[j]? =some v->(bT l)[i*8+j]? =some v:=by
 induction l with
 | nil=>intro i x j v h;simp at h
 | cons y l ih=>
  intro i x j v h a;have d:j<8:=sQ a;have c:(bT (y::l))=y.cells.toList++bT l:=rfl;have b:y.cells.toList.length=8:=rfl
  cases i with
  | zero=>
   simp only[bgp,bf5]at h;subst h;rw[c,Nat.zero_mul,bgu,List.getElem?_append_left (by omega)]
   simpa using a
  | succ i=>
   rw[c,List.getElem?_append_right (by omega),b,show(i+1)*8+j-8=i*8+j by omega]
   exact ih i x j v (by simpa using h) a
theorem dm.nil(w:World)(a:Nat):dm w a (.slice none 0 0) []:=World.ownsRow_nil w a _ 8
theorem dm.form {w:World} {b:Nat} {v:Value} {l:List bn}(h:dm w b v l):∃a c,v=.slice a l.length c/\l.length<=c/\dS w a l:=by
 have e:=h;rcases h.2 with⟨d,m⟩ | ⟨g,p,q,d,_,_,k,_⟩
 ·exact⟨none,0,by rw[d,m],by omega,.inl (bg3 m)⟩
 refine⟨_,_,d,k,.inr ⟨g,0,rfl,λi x n j u o=>?_⟩⟩;unfold dm at e;rw[d]at e;have r:i<l.length:=(List.getElem?_eq_some_iff.1 n).1;have s:j<8:=sQ o;rw[show 0+i*8+j=i*8+j by omega,World.ownsRow.cellAt e _ (by omega)]
 exact ni l i x j u n o
theorem dm.kept {w w':World} {a:Nat} {v:Value} {l:List bn}(h:dm w a v l) {row:Option Nat}(c:w.grownBy w' row)(b:v.ownBlock=none∨v.ownBlock≠row):dm w' a v l:=World.ownsRow.kept h c b
theorem dm.far {w w':World} {a:Nat} {v:Value} {l:List bn}(h:dm w a v l)(b:Bw w w'):dm w' a v l:=
 h.kept (grown_none_below b) (by cases c:v.ownBlock <;> simp)
theorem dm.lt {w:World} {a:Nat} {v:Value} {l:List bn}(h:dm w a v l) {k:Nat}(b:v.ownBlock=some k):a<=k/\k<w.heap.size:=World.ownsRow.lt h k b
theorem wV(l:List bn)(x:bn):bT (l++[x])=bT l++x.cells.toList:=by simp[bT]
theorem kZ {m:Array Oper} {c:List Oper} {o:Oper} {a:Act} {Q:Exit->Act->World->Prop} {w:World}(p:o.guard=none)(s x:Operand)
  (E:o.op=.call { callee:=.builtin .append,args:=#[s,x],argTypes:=#[70,70] })
  (b:Nat) (v:Value) (l:List bn) (F:a.eval s=v) (n:dm w b v l) (u:bn) (g:Nat) (I:a.eval x=.slice (some ⟨g,0,none⟩) 1 1) (J:∀j z,u.cells[j]? =some z->w.cell? ⟨g,j,none⟩=some z)
  (D:l.length+1<=1000000) (d:b<=w.heap.size)
  (h:∀k w',dm w' b k (l++[u])->w.grownBy w' v.ownBlock->(k.ownBlock=v.ownBlock∨k.ownBlock=some w.heap.size)->wpList prog m Q c (a.put o.dst k) w'):
  wpList prog m Q (o::c) a w:=by
 obtain⟨i,K,q,r,y⟩:=info_parts (P:=prog) (e:=131) (z:=.agg #[.string ⟨#[]⟩,.int .i64 0,.int .i64 0,.int .i64 0,.int .i64 0,.slice none 0 0,.complex .f64 0 0,.int .i64 0]) (size:=8) (bytes:=96) (by kernel_rfl)
 refine wpList_append_own_at _ p s x 70 E b 131 i _ 8 96 underlying70 K q r y rfl (by decide) v l.length (bT l) F n ⟨g,0,none⟩ 1 1 u.cells.toList I rfl ?_ ?_ (by unfold maxLen;omega) (by omega) d ?_
 ·intro j z L;rw[addr_add,bgu];exact J j z (by simpa using L)
 ·intro z M;exact Array.all_eq_true'.1 (fV u) z (by simpa using M)
 intro k w' N O _ R;refine h k w' ?_ O R;unfold dm;rw[wV,bft];exact N
theorem dm.XC(w:World)(a:Nat)(b:a<=w.heap.size)(u:bn):dm (w.alloc (.cells u.cells 131)) a (.slice (some ⟨w.heap.size,0,none⟩) 1 1) [u]:=by
 refine⟨rfl,.inr ⟨w.heap.size,1,u.cells,rfl,b,bg5 w _,bfx _,by decide,rfl,?_⟩⟩
 simp[bT,bn.cells]
theorem zY {l:List bn} {b o:Nat} {w:World}(h:∀i x,l[i]? =some x->∀j v,x.cells[j]? =some v->w.cell? ⟨b,o+i*8+j,none⟩=some v):∀(n:Nat) (u:Value),(bT l)[n]? =some u->w.cell? ((⟨b,o,none⟩:Addr).add n)=some u:=by
 intro n u a;have m:=(List.getElem?_eq_some_iff.1 a).1;rw[cu]at m;have p:n / 8<l.length:=by omega
 have c:l[n / 8]? =some l[n / 8]:=bfs p;have q:n % 8<8:=by omega
 obtain⟨v,d⟩:∃v,(l[n / 8]).cells[n % 8]? =some v:=by
  have r:(l[n / 8]).cells.size=8:=rfl;exact⟨_,bgm (by rw[r];exact q)⟩
 have k:=ni l (n / 8) _ (n % 8) v c d;have e:n / 8*8+n % 8=n:=by omega
 rw[e,a]at k;cases k
 rw[addr_add];have s:=h (n / 8) _ c (n % 8) u d
 rwa [Nat.add_assoc,e]at s
theorem kR:((prog.info? 131).map λi=>(i.zero,i.size,i.bytes))=some (some (.agg #[.string ⟨#[]⟩,.int .i64 0,.int .i64 0,.int .i64 0,.int .i64 0,.slice none 0 0,.complex .f64 0 0,.int .i64 0]),8,96):=by kernel_rfl
theorem lI(l:List bn):∀u∈bT l,u.oneCell'=true:=by
 intro u a;obtain⟨x,_,b⟩:=List.mem_flatMap.1 a;exact Array.all_eq_true'.1 (fV x) u (by simpa using b)
theorem G7(w:World)(d:Nat)(v:Value)(m e:List bn)(k:dm w d v m)(a:Option Addr)(c:Nat)(h:dS w a e)(Q:m.length+e.length<=1000000)(z:d<=w.heap.size)(ty:TypeId):
  ∃l w',(Builtin.append_ #[70,70] ty #[v,.slice a e.length c]).run prog w=.ok l w'/\dm w' d l (m++e)/\w.grownBy w' v.ownBlock/\(l.ownBlock=v.ownBlock∨l.ownBlock=some w.heap.size):=by
 obtain⟨i,p,D,E,q⟩:=info_parts kR;have some_case:∀n:Addr,(∀(j:Nat) (u:Value),(bT e)[j]? =some u->w.cell? (n.add j)=some u)->
   ∃l w',(Builtin.append_ #[70,70] ty #[v,.slice (some n) e.length c]).run prog w=.ok l w'/\dm w' d l (m++e)/\w.grownBy w' v.ownBlock/\(l.ownBlock=v.ownBlock∨l.ownBlock=some w.heap.size):=by
  intro n r;obtain⟨l,w',F,I,J,_,K⟩:=run_append_own_at (P:=prog) w d 70 ty 131 i _ 8 96 underlying70 p D E q rfl (by decide) v m.length (bT m) k n e.length c (bT e) (cu e) r (lI e)
   (by unfold maxLen;omega) (by omega) z
  refine⟨l,w',F,?_,J,K⟩;unfold dm;rw[bft,show bT (m++e)=bT m++bT e by simp[bT]]
  exact I
 cases a with
 | some n=>
  rcases h with rfl | ⟨b,o,s,r⟩
  ·exact some_case n λj u L=>by simp[bT]at L
  cases s
  exact some_case _ (zY r)
 | none=>
  have M:e=[]:=by
   rcases h with h | ⟨_,_,s,_⟩
   ·exact h
   cases s
  subst M;refine⟨v,w,?_,by simpa using k,⟨rfl,rfl,rfl,bfx _,λ_ _ _=>rfl⟩,.inl rfl⟩
  rcases k.2 with⟨x,R⟩ | ⟨g,N,O,x,_,S,y,_⟩
  ·rw[x];simp[Builtin.append_,run_underlying underlying70,sizeOf,typeInfo,p,Builtin.lenOf,Builtin.firstCells]
  rw[x];simp[Builtin.append_,run_underlying underlying70,sizeOf,typeInfo,p,Builtin.lenOf,Builtin.firstCells,storeCells,loadCells,y]
theorem jB {d:Array Oper} {b:List Oper} {o:Oper} {a:Act} {w:World} {Q:Exit->Act->World->Prop}(j:o.guard=none)(y:Operand)(k:o.op=.buildSlice 70 1 #[(0,y)])(x:bn)(l:a.eval y=.agg x.cells)
  (h:wpList prog d Q b (a.put o.dst (.slice (some ⟨w.heap.size,0,none⟩) 1 1)) (w.alloc (.cells x.cells 131))):wpList prog d Q (o::b) a w:=by
 have m:Instr.fill (λi=>some (i*8,8)) ((Array.range (1*8)).map ((Value.agg #[.string ⟨#[]⟩,.int .i64 0,.int .i64 0,.int .i64 0,.int .i64 0,.slice none 0 0,.complex .f64 0 0,.int .i64 0]).cells[· % (Value.agg #[.string ⟨#[]⟩,.int .i64 0,.int .i64 0,.int .i64 0,.int .i64 0,.slice none 0 0,.complex .f64 0 0,.int .i64 0]).cells.size]!)) [(0,.agg x.cells)]=some x.cells:=by kernel_rfl
 obtain⟨i,n,e,c,p⟩:=info_parts kR;refine wpList_buildSlice j 70 131 1 _ k x.cells i _ underlying70 n e (by rw[c];decide) (by rw[c];decide) ?_ h
 rw[c];simp only[bgb,bgc,bge,l];exact m
theorem dm.mono {w:World} {b a:Nat} {v:Value} {l:List bn}(h:dm w b v l)(e:a<=b):dm w a v l:=by
 refine⟨h.1,?_⟩;rcases h.2 with h | ⟨g,c,d,j,k,r⟩
 ·exact .inl h
 exact .inr ⟨g,c,d,j,bgn e k,r⟩
theorem NF {o:Oper} {a:Act} {w:World} {K:Act->World->Prop} {Q:Exit->Act->World->Prop}(s x:Operand)
  (m:o.op=.call { callee:=.builtin .append,args:=#[s,x],argTypes:=#[70,70] }) (b:Nat) (v:Value) (k e:List bn) (p:a.eval s=v) (j:dm w b v k)
  (l:Option Addr) (c n:Nat) (q:n=e.length) (r:a.eval x=.slice l n c) (u:dS w l e) (y:k.length+e.length<=1000000) (z:b<=w.heap.size)
  (h:∀d w',dm w' b d (k++e)->w.grownBy w' v.ownBlock->(d.ownBlock=v.ownBlock∨d.ownBlock=some w.heap.size)->K (a.put o.dst d) w'):o.wp prog a w K Q:=by
 subst q;obtain⟨d,w',D,E,F,I⟩:=G7 w b v k e j l c u y z o.type;unfold Oper.wp execOp;simp only[m,resolve,invoke,builtin,Sem.run_bind,Sem.run_pure,Result.andThen_ok,bgb,bgc,bge,p,r,D];exact h d w' E F I
theorem RN {o:Oper} {a:Act} {w:World} {K:Act->World->Prop} {Q:Exit->Act->World->Prop}(x y:Operand)(b:o.op=.store 131 x y)(g:Nat)(u old:bn)
  (c:a.eval x=.pointer (some ⟨g,0,none⟩)) (d:a.eval y=.agg u.cells) (e:dw w g old) (h:K (a.put o.dst undef) (w.setRow g u.cells)):o.wp prog a w K Q:=
 wp_store_row _ x y b g u.cells c d _ old.cells e fK rfl (fV u) h
theorem dm.fro {w:World} {a g c n:Nat} {l:List bn}(h:dm w a (.slice (some ⟨g,0,none⟩) n c) l)(b:n=l.length)(j:Nat):w.frozen? ⟨g,j,none⟩=false:=by
 subst b;exact World.ownsRow.frozenAt h j
theorem dS.take {w:World} {a:Option Addr} {l:List bn}(h:dS w a l)(i:Nat):dS w a (l.take i):=by
 rcases h with h | ⟨b,o,h,d⟩
 ·left
  rw[h,List.take_nil]
 right
 refine⟨b,o,h,λj x c=>d j x ?_⟩;rw[List.getElem?_take]at c
 split at c
 ·exact c
 cases c
theorem dS.cut {w:World} {b o:Nat} {l:List bn}(h:dS w (some ⟨b,o,none⟩) l)(i:Nat):dS w (some ⟨b,o+i*8,none⟩) (l.drop i):=by
 rcases h with h | ⟨e,m,h,c⟩
 ·left
  rw[h,List.drop_nil]
 right
 cases h
 refine⟨b,o+i*8,rfl,λj x a k v d=>?_⟩;rw[List.getElem?_drop]at a;have:=c (i+j) x a k v d
 rwa [show o+(i+j)*8+k=o+i*8+j*8+k by omega]at this
theorem mM(w:World)(a:Option Addr)(n c i:Nat)(h:i<=c):
  (Instr.slice 70 (.slice a n c) none (some (.int .i64 (i:Int))) none).run prog w=.ok (.slice a i c) w:=by
 have b:∀w,(sizeOf 131).run prog w=.ok 8 w:=sizeOf131;cases a <;> simp[Instr.slice,run_underlying underlying70,Instr.sliceBounds,run_sliceBound,b,h,sN]
def D8(w:World)(b:Nat)(x:bn):Prop:=w.cell? ⟨b,0,none⟩=some (Sv x.p.w.key)/\w.cell? ⟨b,1,none⟩=some (.int .i64 x.p.w.lo)/\w.cell? ⟨b,2,none⟩=some (.int .i64 x.p.w.hi)/\w.cell? ⟨b,3,none⟩=some (.int .i64 x.p.a.n)/\w.cell? ⟨b,4,none⟩=some (.int .i64 x.p.a.a)/\w.cell? ⟨b,5,none⟩=some x.tv/\w.cell? ⟨b,6,none⟩=some x.z/\w.cell? ⟨b,7,none⟩=some (.int .i64 x.p.r)
theorem dw.d8 {w:World} {b:Nat} {x:bn}(h:dw w b x):D8 w b x:=⟨h.cell 0 rfl,h.cell 1 rfl,h.cell 2 rfl,h.cell 3 rfl,h.cell 4 rfl,h.cell 5 rfl,h.cell 6 rfl,h.cell 7 rfl⟩
def fH(w:World)(b:Nat)(x:bH):Prop:=w.heap[b]? =some (.cells x.cells 37 (0,0))
theorem fH.lt {w:World} {b:Nat} {x:bH}(h:fH w b x):b<w.heap.size:=(Array.getElem?_eq_some_iff.1 h).1
theorem fH.below {w w':World} {b:Nat} {x:bH}(h:fH w b x)(a:Bw w w'):fH w' b x:=(a.block b h.lt).trans h
theorem fH.cell {w:World} {b:Nat} {x:bH}(h:fH w b x)(i:Nat) {v:Value}(a:x.cells[i]? =some v):w.cell? ⟨b,i,none⟩=some v:=by
 rw[cell_of_row _ _ _ _ _ _ h];exact a
theorem fH.fro {w:World} {b:Nat} {x:bH}(h:fH w b x)(i:Nat):w.frozen? ⟨b,i,none⟩=false:=by
 unfold fH at h;simp[World.frozen?,h]
theorem fH.grown {w w':World} {b:Nat} {x:bH} {row:Option Nat}(h:fH w b x)(c:w.grownBy w' row)(a:some b≠row):fH w' b x:=(c.block b h.lt a).trans h
theorem fH.reset {w:World} {b:Nat} {x:bH}(h:fH w b x)(y:bH):fH (w.setRow b y.cells) b y:=setRow_heap w b _ _ _ _ h
theorem Cc(w:World)(x:bH):fH ((w.alloc (Obj.cells dD.cells 37)).setRow w.heap.size x.cells) w.heap.size x/\Bw w ((w.alloc (Obj.cells dD.cells 37)).setRow w.heap.size x.cells):=
 ⟨setRow_heap _ _ _ _ _ _ (bg5 w _),((Below.refl _ w).alloc (bfx _) _).trans ⟨rfl,rfl,rfl,by simp[World.setRow],λk a=>setRow_other _ _ _ _ (by omega)⟩⟩
def dZ(w:World)(a:Option Addr)(l:List bH):Prop:=
 l=[]∨∃b o,a=some ⟨b,o,none⟩/\∀i x,l[i]? =some x->∀j v,x.cells[j]? =some v->w.cell? ⟨b,o+i*10+j,none⟩=some v
theorem dZ.below {w w':World} {a:Option Addr} {l:List bH}(h:dZ w a l)(k:Bw w w'):dZ w' a l:=by
 rcases h with h | ⟨b,o,h,c⟩
 ·exact .inl h
 exact .inr ⟨b,o,h,λi x d j v e=>(k.cell (block_lt_of_cell (c i x d j v e))).trans (c i x d j v e)⟩
theorem Dl {x:bH} {j:Nat} {v:Value}(h:x.cells[j]? =some v):j<10:=by
 have:=(Array.getElem?_eq_some_iff.1 h).1;simpa[bH.cells]using this
def fF(l:List bH):List Value:=l.flatMap λx=>x.cells.toList
def fU(w:World)(base:Nat)(v:Value)(l:List bH):Prop:=w.ownsRow base 37 10 v l.length (fF l)
theorem jM(l:List bH):(fF l).length=l.length*10:=by
 induction l with
 | nil=>rfl
 | cons x l ih=>
  have:(fF (x::l)).length=10+(fF l).length:=by
   show(x.cells.toList++fF l).length=_;rw[bft];rfl
  rw[this,ih,bgy];omega
theorem vP(l:List bH):∀(i:Nat) (x:bH) (j:Nat) (v:Value),l[i]? =some x->x.cells[j]? =some v->(fF l)[i*10+j]? =some v:=by
 induction l with
 | nil=>intro i x j v h;simp at h
 | cons y l ih=>
  intro i x j v h a;have d:j<10:=Dl a;have c:(fF (y::l))=y.cells.toList++fF l:=rfl;have b:y.cells.toList.length=10:=rfl
  cases i with
  | zero=>
   simp only[bgp,bf5]at h;subst h;rw[c,Nat.zero_mul,bgu,List.getElem?_append_left (by omega)]
   simpa using a
  | succ i=>
   rw[c,List.getElem?_append_right (by omega),b,show(i+1)*10+j-10=i*10+j by omega]
   exact ih i x j v (by simpa using h) a
theorem fU.nil(w:World)(a:Nat):fU w a (.slice none 0 0) []:=World.ownsRow_nil w a _ 10
theorem fU.form {w:World} {b:Nat} {v:Value} {l:List bH}(h:fU w b v l):∃a c,v=.slice a l.length c/\l.length<=c/\dZ w a l:=by
 have e:=h;rcases h.2 with⟨d,m⟩ | ⟨g,p,q,d,_,_,k,_⟩
 ·exact⟨none,0,by rw[d,m],by omega,.inl (bg3 m)⟩
 refine⟨_,_,d,k,.inr ⟨g,0,rfl,λi x n j u o=>?_⟩⟩;unfold fU at e;rw[d]at e;have r:i<l.length:=(List.getElem?_eq_some_iff.1 n).1;have s:j<10:=Dl o;rw[show 0+i*10+j=i*10+j by omega,World.ownsRow.cellAt e _ (by omega)]
 exact vP l i x j u n o
theorem fU.kept {w w':World} {a:Nat} {v:Value} {l:List bH}(h:fU w a v l) {row:Option Nat}(c:w.grownBy w' row)(b:v.ownBlock=none∨v.ownBlock≠row):fU w' a v l:=World.ownsRow.kept h c b
theorem fU.far {w w':World} {a:Nat} {v:Value} {l:List bH}(h:fU w a v l)(b:Bw w w'):fU w' a v l:=
 h.kept (grown_none_below b) (by cases c:v.ownBlock <;> simp)
theorem fU.lt {w:World} {a:Nat} {v:Value} {l:List bH}(h:fU w a v l) {k:Nat}(b:v.ownBlock=some k):a<=k/\k<w.heap.size:=World.ownsRow.lt h k b
theorem FU(l:List bH)(x:bH):fF (l++[x])=fF l++x.cells.toList:=by simp[fF]
theorem qR {m:Array Oper} {c:List Oper} {o:Oper} {a:Act} {Q:Exit->Act->World->Prop} {w:World}(p:o.guard=none)(s x:Operand)
  (E:o.op=.call { callee:=.builtin .append,args:=#[s,x],argTypes:=#[27,27] })
  (b:Nat) (v:Value) (l:List bH) (F:a.eval s=v) (n:fU w b v l) (u:bH) (g:Nat) (I:a.eval x=.slice (some ⟨g,0,none⟩) 1 1) (J:∀j z,u.cells[j]? =some z->w.cell? ⟨g,j,none⟩=some z)
  (D:l.length+1<=1000000) (d:b<=w.heap.size)
  (h:∀k w',fU w' b k (l++[u])->w.grownBy w' v.ownBlock->(k.ownBlock=v.ownBlock∨k.ownBlock=some w.heap.size)->wpList prog m Q c (a.put o.dst k) w'):
  wpList prog m Q (o::c) a w:=by
 obtain⟨i,K,q,r,y⟩:=info_parts (P:=prog) (e:=37) (z:=.agg #[.bool false,.int .i64 0,.string ⟨#[]⟩,.int .i64 0,.int .i64 0,.string ⟨#[]⟩,.int .i64 0,.int .i64 0,.int .i64 0,.slice none 0 0]) (size:=10) (bytes:=112) (by kernel_rfl)
 refine wpList_append_own_at _ p s x 27 E b 37 i _ 10 112 underlying27 K q r y rfl (by decide) v l.length (fF l) F n ⟨g,0,none⟩ 1 1 u.cells.toList I rfl ?_ ?_ (by unfold maxLen;omega) (by omega) d ?_
 ·intro j z L;rw[addr_add,bgu];exact J j z (by simpa using L)
 ·intro z M;exact Array.all_eq_true'.1 (jl u) z (by simpa using M)
 intro k w' N O _ R;refine h k w' ?_ O R;unfold fU;rw[FU,bft];exact N
theorem Ll {l:List bH} {b o:Nat} {w:World}(h:∀i x,l[i]? =some x->∀j v,x.cells[j]? =some v->w.cell? ⟨b,o+i*10+j,none⟩=some v):∀(n:Nat) (u:Value),(fF l)[n]? =some u->w.cell? ((⟨b,o,none⟩:Addr).add n)=some u:=by
 intro n u a;have m:=(List.getElem?_eq_some_iff.1 a).1;rw[jM]at m;have p:n / 10<l.length:=by omega
 have c:l[n / 10]? =some l[n / 10]:=bfs p;have q:n % 10<10:=by omega
 obtain⟨v,d⟩:∃v,(l[n / 10]).cells[n % 10]? =some v:=by
  have r:(l[n / 10]).cells.size=10:=rfl;exact⟨_,bgm (by rw[r];exact q)⟩
 have k:=vP l (n / 10) _ (n % 10) v c d;have e:n / 10*10+n % 10=n:=by omega
 rw[e,a]at k;cases k
 rw[addr_add];have s:=h (n / 10) _ c (n % 10) u d
 rwa [Nat.add_assoc,e]at s
theorem yF:((prog.info? 37).map λi=>(i.zero,i.size,i.bytes))=some (some (.agg #[.bool false,.int .i64 0,.string ⟨#[]⟩,.int .i64 0,.int .i64 0,.string ⟨#[]⟩,.int .i64 0,.int .i64 0,.int .i64 0,.slice none 0 0]),10,112):=by kernel_rfl
theorem Jc(l:List bH):∀u∈fF l,u.oneCell'=true:=by
 intro u a;obtain⟨x,_,b⟩:=List.mem_flatMap.1 a;exact Array.all_eq_true'.1 (jl x) u (by simpa using b)
theorem G6(w:World)(d:Nat)(v:Value)(m e:List bH)(k:fU w d v m)(a:Option Addr)(c:Nat)(h:dZ w a e)(Q:m.length+e.length<=1000000)(z:d<=w.heap.size)(ty:TypeId):
  ∃l w',(Builtin.append_ #[27,27] ty #[v,.slice a e.length c]).run prog w=.ok l w'/\fU w' d l (m++e)/\w.grownBy w' v.ownBlock/\(l.ownBlock=v.ownBlock∨l.ownBlock=some w.heap.size):=by
 obtain⟨i,p,D,E,q⟩:=info_parts yF;have some_case:∀n:Addr,(∀(j:Nat) (u:Value),(fF e)[j]? =some u->w.cell? (n.add j)=some u)->
   ∃l w',(Builtin.append_ #[27,27] ty #[v,.slice (some n) e.length c]).run prog w=.ok l w'/\fU w' d l (m++e)/\w.grownBy w' v.ownBlock/\(l.ownBlock=v.ownBlock∨l.ownBlock=some w.heap.size):=by
  intro n r;obtain⟨l,w',F,I,J,_,K⟩:=run_append_own_at (P:=prog) w d 27 ty 37 i _ 10 112 underlying27 p D E q rfl (by decide) v m.length (fF m) k n e.length c (fF e) (jM e) r (Jc e)
   (by unfold maxLen;omega) (by omega) z
  refine⟨l,w',F,?_,J,K⟩;unfold fU;rw[bft,show fF (m++e)=fF m++fF e by simp[fF]]
  exact I
 cases a with
 | some n=>
  rcases h with rfl | ⟨b,o,s,r⟩
  ·exact some_case n λj u L=>by simp[fF]at L
  cases s
  exact some_case _ (Ll r)
 | none=>
  have M:e=[]:=by
   rcases h with h | ⟨_,_,s,_⟩
   ·exact h
   cases s
  subst M;refine⟨v,w,?_,by simpa using k,⟨rfl,rfl,rfl,bfx _,λ_ _ _=>rfl⟩,.inl rfl⟩
  rcases k.2 with⟨x,R⟩ | ⟨g,N,O,x,_,S,y,_⟩
  ·rw[x];simp[Builtin.append_,run_underlying underlying27,sizeOf,typeInfo,p,Builtin.lenOf,Builtin.firstCells]
  rw[x];simp[Builtin.append_,run_underlying underlying27,sizeOf,typeInfo,p,Builtin.lenOf,Builtin.firstCells,storeCells,loadCells,y]
theorem lU {d:Array Oper} {b:List Oper} {o:Oper} {a:Act} {w:World} {Q:Exit->Act->World->Prop}(j:o.guard=none)(y:Operand)(k:o.op=.buildSlice 27 1 #[(0,y)])(x:bH)(l:a.eval y=.agg x.cells)
  (h:wpList prog d Q b (a.put o.dst (.slice (some ⟨w.heap.size,0,none⟩) 1 1)) (w.alloc (.cells x.cells 37))):wpList prog d Q (o::b) a w:=by
 have m:Instr.fill (λi=>some (i*10,10)) ((Array.range (1*10)).map ((Value.agg #[.bool false,.int .i64 0,.string ⟨#[]⟩,.int .i64 0,.int .i64 0,.string ⟨#[]⟩,.int .i64 0,.int .i64 0,.int .i64 0,.slice none 0 0]).cells[· % (Value.agg #[.bool false,.int .i64 0,.string ⟨#[]⟩,.int .i64 0,.int .i64 0,.string ⟨#[]⟩,.int .i64 0,.int .i64 0,.int .i64 0,.slice none 0 0]).cells.size]!)) [(0,.agg x.cells)]=some x.cells:=by kernel_rfl
 obtain⟨i,n,e,c,p⟩:=info_parts yF;refine wpList_buildSlice j 27 37 1 _ k x.cells i _ underlying27 n e (by rw[c];decide) (by rw[c];decide) ?_ h
 rw[c];simp only[bgb,bgc,bge,l];exact m
theorem fU.mono {w:World} {b a:Nat} {v:Value} {l:List bH}(h:fU w b v l)(e:a<=b):fU w a v l:=by
 refine⟨h.1,?_⟩;rcases h.2 with h | ⟨g,c,d,j,k,r⟩
 ·exact .inl h
 exact .inr ⟨g,c,d,j,bgn e k,r⟩
theorem zo {o:Oper} {a:Act} {w:World} {K:Act->World->Prop} {Q:Exit->Act->World->Prop}(y:Operand)(d:o.op=.buildSlice 27 1 #[(0,y)])(x:bH)(e:a.eval y=.agg x.cells)
  (h:K (a.put o.dst (.slice (some ⟨w.heap.size,0,none⟩) 1 1)) (w.alloc (.cells x.cells 37))):o.wp prog a w K Q:=by
 have j:Instr.fill (λi=>some (i*10,10)) ((Array.range (1*10)).map ((Value.agg #[.bool false,.int .i64 0,.string ⟨#[]⟩,.int .i64 0,.int .i64 0,.string ⟨#[]⟩,.int .i64 0,.int .i64 0,.int .i64 0,.slice none 0 0]).cells[· % (Value.agg #[.bool false,.int .i64 0,.string ⟨#[]⟩,.int .i64 0,.int .i64 0,.string ⟨#[]⟩,.int .i64 0,.int .i64 0,.int .i64 0,.slice none 0 0]).cells.size]!)) [(0,.agg x.cells)]=some x.cells:=by kernel_rfl
 obtain⟨i,k,c,b,l⟩:=info_parts yF;refine wp_buildSlice 27 37 1 _ d x.cells i _ underlying27 k c (by rw[b];decide) (by rw[b];decide) ?_ h
 rw[b];simp only[bgb,bgc,bge,e];exact j
theorem dZ.one {w:World} {g:Nat} {y:bH}(h:∀j z,y.cells[j]? =some z->w.cell? ⟨g,j,none⟩=some z):dZ w (some ⟨g,0,none⟩) [y]:=by
 refine .inr ⟨g,0,rfl,λi x a j v b=>?_⟩
 cases i with
 | zero=>
  simp only[bgp,bf5]at a;subst a;rw[show 0+0*10+j=j by omega]
  exact h j v b
 | succ i=>simp at a
theorem CB {o:Oper} {a:Act} {w:World} {K:Act->World->Prop} {Q:Exit->Act->World->Prop}(s x:Operand)
  (m:o.op=.call { callee:=.builtin .append,args:=#[s,x],argTypes:=#[27,27] }) (b:Nat) (v:Value) (k e:List bH) (p:a.eval s=v) (j:fU w b v k)
  (l:Option Addr) (c n:Nat) (q:n=e.length) (r:a.eval x=.slice l n c) (u:dZ w l e) (y:k.length+e.length<=1000000) (z:b<=w.heap.size)
  (h:∀d w',fU w' b d (k++e)->w.grownBy w' v.ownBlock->(d.ownBlock=v.ownBlock∨d.ownBlock=some w.heap.size)->K (a.put o.dst d) w'):o.wp prog a w K Q:=by
 subst q;obtain⟨d,w',D,E,F,I⟩:=G6 w b v k e j l c u y z o.type;unfold Oper.wp execOp;simp only[m,resolve,invoke,builtin,Sem.run_bind,Sem.run_pure,Result.andThen_ok,bgb,bgc,bge,p,r,D];exact h d w' E F I
def XM(w:World)(b:Nat)(x:bH):Prop:=w.cell? ⟨b,0,none⟩=some (.bool x.o.late)/\w.cell? ⟨b,1,none⟩=some (.int .i64 x.o.item.kind)/\w.cell? ⟨b,2,none⟩=some (Sv x.o.item.key)/\w.cell? ⟨b,3,none⟩=some (.int .i64 x.o.item.time)/\w.cell? ⟨b,4,none⟩=some (.int .i64 x.o.item.value)/\w.cell? ⟨b,5,none⟩=some (Sv x.o.w.key)/\w.cell? ⟨b,6,none⟩=some (.int .i64 x.o.w.lo)/\w.cell? ⟨b,7,none⟩=some (.int .i64 x.o.w.hi)/\w.cell? ⟨b,8,none⟩=some (.int .i64 x.o.r)/\w.cell? ⟨b,9,none⟩=some x.tv
theorem fH.d10 {w:World} {b:Nat} {x:bH}(h:fH w b x):XM w b x:=⟨h.cell 0 rfl,h.cell 1 rfl,h.cell 2 rfl,h.cell 3 rfl,h.cell 4 rfl,h.cell 5 rfl,h.cell 6 rfl,h.cell 7 rfl,h.cell 8 rfl,h.cell 9 rfl⟩
open Go Go.RowKit Go.Proofs.Tryz
def PI(x:bH):Prop:=x.o.item.key.length<=1000000/\x.o.w.key.length<=1000000/\x.o.v.length<=1000000
theorem mZ(w:World)(x:bH)(hG:dL w x)(hF:PI x):Calls prog 23 #[.agg x.cells] w (Below0 w (.bool x.o.rightB)):=by
 obtain⟨⟨d,⟨m,p,q,s⟩,⟨y,z,D⟩,r,v⟩,tv,YC⟩:=x;obtain⟨Q,R,hv,-,-⟩:=hG;have hv:tv=.slice Q v.length R:=hv;subst hv;obtain⟨n,hn⟩:=Nm (v.length);obtain⟨j,F⟩:=Nm (w.alloc (.cells #[.bool d,.int .i64 m,Sv p,.int .i64 q,.int .i64 s,Sv y,.int .i64 z,.int .i64 D,.int .i64 r,.slice Q n R] 37));obtain⟨k,K⟩:=Nm (w.heap.size);have S:Bw w j:=by rw[F];exact(Below.refl _ w).alloc (bfx _) _
 have b:j.heap[k]? =some (.cells #[.bool d,.int .i64 m,Sv p,.int .i64 q,.int .i64 s,Sv y,.int .i64 z,.int .i64 D,.int .i64 r,.slice Q n R] 37 (0,0)):=by rw[F,K];exact bg5 w _
 have e0:j.cell? ⟨k,0,none⟩=some (.bool d):=by rw[cell_of_row _ _ _ _ _ _ b];rfl
 have e1:j.cell? ⟨k,1,none⟩=some (.int .i64 m):=by rw[cell_of_row _ _ _ _ _ _ b];rfl
 have e2:j.cell? ⟨k,2,none⟩=some (Sv p):=by rw[cell_of_row _ _ _ _ _ _ b];rfl
 have e3:j.cell? ⟨k,3,none⟩=some (.int .i64 q):=by rw[cell_of_row _ _ _ _ _ _ b];rfl
 have e4:j.cell? ⟨k,4,none⟩=some (.int .i64 s):=by rw[cell_of_row _ _ _ _ _ _ b];rfl
 have e5:j.cell? ⟨k,5,none⟩=some (Sv y):=by rw[cell_of_row _ _ _ _ _ _ b];rfl
 have e6:j.cell? ⟨k,6,none⟩=some (.int .i64 z):=by rw[cell_of_row _ _ _ _ _ _ b];rfl
 have e7:j.cell? ⟨k,7,none⟩=some (.int .i64 D):=by rw[cell_of_row _ _ _ _ _ _ b];rfl
 have Z:j.cell? ⟨k,8,none⟩=some (.int .i64 r):=by rw[cell_of_row _ _ _ _ _ _ b];rfl
 have e9:j.cell? ⟨k,9,none⟩=some (.slice Q n R):=by rw[cell_of_row _ _ _ _ _ _ b];rfl
 have hE:=eright_any j ⟨m,p,q,s⟩ hF.1;have hW:=gQ j ⟨y,z,D⟩ hF.2.1;obtain⟨rb,L⟩:=Nm ((ItemL.mk m p q s).rightB);obtain⟨U,M⟩:=Nm ((bf.mk y z D).rightB);obtain⟨sw,N⟩:=Nm (ku ⟨y,z,D⟩ bF);obtain⟨si,O⟩:=Nm (sameI ⟨m,p,q,s⟩ zeroI);rw[<-L]at hE;rw[<-M]at hW;have ac:∀I,(binOp .eql 34 (.agg #[Sv y,.int .i64 z,.int .i64 D]) (.agg #[.string ⟨#[]⟩,.int .i64 0,.int .i64 0])).run prog I=.ok (.bool sw) I:=λI=>by rw[N];exact jS I ⟨y,z,D⟩ bF
 have ad:∀I,(binOp .eql 32 (.agg #[.int .i64 m,Sv p,.int .i64 q,.int .i64 s]) (.agg #[.int .i64 0,.string ⟨#[]⟩,.int .i64 0,.int .i64 0])).run prog I=.ok (.bool si) I:=λI=>by rw[O];exact run_eql_item I ⟨m,p,q,s⟩ zeroI
 have J:(dE.mk d ⟨m,p,q,s⟩ ⟨y,z,D⟩ r v).rightB=(if d=true then rb && (sw && (decide (r=0) && decide (n=0)))else si && (U && (decide (1<=r) && (decide (r<=1073741824) && (decide (1<=n) && decide (n<=8)))))):=by
  rw[L,N,M,O,hn];rfl
 have a:=Lh (bfy F (bfy K (bfy S (bfy hE (bfy hW J)))));show Calls prog 23 #[.agg #[.bool d,.int .i64 m,Sv p,.int .i64 q,.int .i64 s,Sv y,.int .i64 z,.int .i64 D,.int .i64 r,.slice Q v.length R]] w _;rw[<-hn];clear F K S b hE hW J L M N O hn hF
 cases d with
 | true=>
  go_enter func23,ntmps23;go_upto_region 1 with fail;rw[<-a.out.1,<-a.out.2.1];go_wp2_with fail;refine a.out.2.2.2.1.mono ?_;rintro e w2 ⟨rfl,l⟩;dsimp only;have E:∀i u,j.cell? ⟨k,i,none⟩=some u->w2.cell? ⟨k,i,none⟩=some u:=λi u h=>(l.cell (block_lt_of_cell h)).trans h;replace e5:=E _ _ e5;replace e6:=E _ _ e6;replace e7:=E _ _ e7;replace Z:=E _ _ Z;replace e9:=E _ _ e9;have c:=Lh l;clear E l
  cases rb with
  | false=>
   go_wp2_with fail;go_ret;exact⟨by rw[a.out.2.2.2.2.2];first | (simp;done) | (simp;intros;omega),a.out.2.2.1.trans (c.out.mono a.out.2.2.1.size)⟩
  | true=>
   cases sw with
   | false=>
    go_wp2_with fail;go_ret;exact⟨by rw[a.out.2.2.2.2.2];first | (simp;done) | (simp;intros;omega),a.out.2.2.1.trans (c.out.mono a.out.2.2.1.size)⟩
   | true=>
    by_cases Y:r=0
    ·by_cases h2:n=0
     ·subst Y;subst h2;go_wp2_with fail;go_ret;exact⟨by rw[a.out.2.2.2.2.2];first | (simp;done) | (simp;intros;omega),a.out.2.2.1.trans (c.out.mono a.out.2.2.1.size)⟩
     subst Y;have ae:decide ((n:Int)=0)=false:=bfq (by omega)
     go_wp2_with fail;go_ret;exact⟨by rw[a.out.2.2.2.2.2];first | (simp[h2];done) | (simp;intros;omega),a.out.2.2.1.trans (c.out.mono a.out.2.2.1.size)⟩
    go_wp2_with fail;go_ret;exact⟨by rw[a.out.2.2.2.2.2];first | (simp[Y];done) | (simp;intros;omega),a.out.2.2.1.trans (c.out.mono a.out.2.2.1.size)⟩
 | false=>
  go_enter func23,ntmps23;go_upto_region 1 with fail;rw[<-a.out.1,<-a.out.2.1]
  cases si with
  | false=>
   go_wp2_with fail;go_ret;exact⟨by rw[a.out.2.2.2.2.2];first | (simp;done) | (simp;intros;omega),a.out.2.2.1⟩
  | true=>
   go_wp2_with fail;refine a.out.2.2.2.2.1.mono ?_;rintro e w2 ⟨rfl,l⟩;dsimp only;have E:∀i u,j.cell? ⟨k,i,none⟩=some u->w2.cell? ⟨k,i,none⟩=some u:=λi u h=>(l.cell (block_lt_of_cell h)).trans h;replace Z:=E _ _ Z;replace e9:=E _ _ e9;have c:=Lh l;clear E l
   cases U with
   | false=>
    go_wp2_with fail;go_ret;exact⟨by rw[a.out.2.2.2.2.2];first | (simp;done) | (simp;intros;omega),a.out.2.2.1.trans (c.out.mono a.out.2.2.1.size)⟩
   | true=>
    by_cases Y:1<=r
    ·by_cases h2:r<=1073741824
     ·by_cases h3:1<=n
      ·have aa:(1:Int)<=(n:Int):=by omega
       by_cases h4:n<=8
       ·have ab:(n:Int)<=8:=by omega
        go_wp2_with fail;go_ret;exact⟨by rw[a.out.2.2.2.2.2];first | (simp[Y,h2,h3,h4];done) | (simp;intros;omega),a.out.2.2.1.trans (c.out.mono a.out.2.2.1.size)⟩
       have ab:¬(n:Int)<=8:=by omega
       go_wp2_with fail;go_ret;exact⟨by rw[a.out.2.2.2.2.2];first | (simp[h4];done) | (simp;intros;omega),a.out.2.2.1.trans (c.out.mono a.out.2.2.1.size)⟩
      have aa:¬(1:Int)<=(n:Int):=by omega
      go_wp2_with fail;go_ret;exact⟨by rw[a.out.2.2.2.2.2];first | (simp[h3];done) | (simp;intros;omega),a.out.2.2.1.trans (c.out.mono a.out.2.2.1.size)⟩
     go_wp2_with fail;go_ret;exact⟨by rw[a.out.2.2.2.2.2];simp;intros;omega,a.out.2.2.1.trans (c.out.mono a.out.2.2.1.size)⟩
    go_wp2_with fail;go_ret;exact⟨by rw[a.out.2.2.2.2.2];simp;intros;omega,a.out.2.2.1.trans (c.out.mono a.out.2.2.1.size)⟩
end Go.Proofs.YtgfmbkoieacgoaaGreatDoor
set_option maxRecDepth 100000
set_option maxHeartbeats 2000000
namespace Go.Proofs.YtgfmbkoieacgoaaGreatDoor
open Go Go.RowKit Go.Proofs.Tryz
theorem Di:∀(l m:List Int),Lib.allEq (λx y=>x==y) l m=decide (l=m)
 | [],[]=>rfl
 | [],_::_=>by simp[Lib.allEq]
 | _::_,[]=>by simp[Lib.allEq]
 | x::l,y::m=>by
  rw[Lib.allEq,Di l m];by_cases a:x=y <;> by_cases b:l=m <;> simp[a,b]
theorem Be(w:World)(o r:Value)(l m:List Int)(a:bC w o l)(b:bC w r m)(s:l.length<=1000000)(u:m.length<=1000000):
  Calls prog 130 #[o,r] w (Below0 w (.bool (decide (l=m)))):=by
 obtain⟨O,c1,rfl,_,a⟩:=a;obtain⟨Q,c2,rfl,_,b⟩:=b;by_cases c:l.length=m.length
 ·by_cases d:l.length=0
  ·have D:l=[]:=List.length_eq_zero_iff.1 d;have E:m=[]:=List.length_eq_zero_iff.1 (c ▸ d);subst D;subst E;clear a b s u c d;simp only[List.length_nil];go_enter func130,ntmps130;go_wp2_with fail;go_loopg [13] 0 (λ_ n wr=>n=.int .i64 0/\wr=w)
   case atStart=>exact⟨rfl,rfl⟩
   case round=>
    obtain⟨rfl,F⟩:=hrel;subst F;go_wp2_with fail;go_ret;exact⟨rfl,Br⟩
  rcases a with⟨_,rfl⟩ | ⟨I,J,rfl,_,a⟩
  ·exact absurd rfl d
  rcases b with⟨_,rfl⟩ | ⟨K,L,rfl,_,b⟩
  ·exact absurd c d
  refine(AnyE.slices_Equal Tryz.WF (Value.int .i64) _ (NeqAt.int _ _ .i64) I J l.length c1 K L m.length c2 l m w (bfx _) (bfx _) (by omega) (by omega) (λj h=>a j _ ?_) (λj h=>b j _ ?_)).mono ?_
  ·rw[bfs h,getElem!_pos l j h]
  ·rw[bfs h,getElem!_pos m j h]
  rintro e R ⟨rfl,k,M⟩;refine⟨?_,by rw[M];exact below_draws Br k⟩
  rw[bgs,bgs,Di]
 have x:decide (l=m)=false:=bfq λe=>c (by rw[e])
 rw[x];clear x a b;obtain⟨p,y⟩:=Nm (l.length);obtain⟨q,z⟩:=Nm (m.length);rw[<-y]at s c ⊢;rw[<-z]at u c ⊢;clear y z;have N:¬(p:Int)=(q:Int):=by omega
 go_enter func130,ntmps130;go_wp2_with fail;go_ret;exact⟨rfl,Br⟩
def BZ(x y:fP):Bool:=decide (x.n=y.n/\x.a=y.a/\x.top=y.top/\x.u=y.u/\x.v=y.v)
theorem Rf(x y:fP):BZ x y=true↔x=y:=by
 obtain⟨a,b,c,u1,d⟩:=x;obtain⟨e,h,j,u2,k⟩:=y;simp[BZ]
theorem Wu(w:World)(a b:Int)(c d:Value)(e h:Int)(j k:Value):dA ((w.alloc (.cells (bJ a b c d) 120)).alloc (.cells (bJ e h j k) 120)) w.heap.size a b c d/\dA ((w.alloc (.cells (bJ a b c d) 120)).alloc (.cells (bJ e h j k) 120)) (w.heap.size+1) e h j k/\Bw w ((w.alloc (.cells (bJ a b c d) 120)).alloc (.cells (bJ e h j k) 120)):=by
 have m:=(Below.refl _ w).alloc (bfx _) (.cells (bJ a b c d) 120);have l:=(Below.refl _ (w.alloc (.cells (bJ a b c d) 120))).alloc (bfx _) (.cells (bJ e h j k) 120);have n:(w.alloc (.cells (bJ a b c d) 120)).heap.size=w.heap.size+1:=bg w _;refine⟨dA.below (bg5 w _) l,?_,Tb m l⟩;rw[<-n];exact bg5 _ _
theorem PW(w:World)(x y:fP)(h p j z:Value)(h1:bC w h x.top)(h2:bC w j y.top)(N:dN p x.u x.v)(O:dN z y.u y.v)(D:x.top.length<=1000000)(E:y.top.length<=1000000):
  Calls prog 142 #[.agg (bJ x.n x.a h p),.agg (bJ y.n y.a j z)] w (Below0 w (.bool (BZ x y))):=by
 obtain⟨r,Q⟩:=Nm (BZ x y);rw[<-Q];have HR:=Lh Q;clear Q;obtain⟨R,k⟩:=Nm (decide (x.top=y.top));obtain⟨rz,l⟩:=Nm (decide (x.u=y.u/\x.v=y.v));have HC:Hid (∀F,Bw w F->Calls prog 130 #[h,j] F (Below0 F (.bool R))):=by
  rw[k];exact Lh (λF c=>Be F h j x.top y.top (h1.below c) (h2.below c) D E)
 have S:=ql.eql N.1 O.1;have aa:=ql.guard N.1 O.1;rw[<-l]at S;have I:Hid (r=(decide (x.n=y.n) && (decide (x.a=y.a) && (R && rz)))):=by
  rw[HR.out,k,l,BZ];refine Lh ?_;simp
 clear HR k l h1 h2 N O D E;obtain⟨q,s,l1,u1,v1⟩:=x;obtain⟨J,K,l2,u2,v2⟩:=y;simp only at I ⊢;obtain⟨L,d⟩:=Nm ((w.alloc (.cells (bJ q s h p) 120)).alloc (.cells (bJ J K j z) 120));obtain⟨b1,m⟩:=Nm (w.heap.size);obtain⟨b2,o⟩:=Nm (w.heap.size+1);have M:(w.alloc (.cells (bJ q s h p) 120)).heap.size=w.heap.size+1:=bg w _;have b:Hid (dA L b1 q s h p/\dA L b2 J K j z/\Bw w L):=by
  rw[d,m,o];exact Lh (Wu w q s h p J K j z)
 obtain⟨f0,f1,f2,f3⟩:=b.out.1.d4;obtain⟨g0,g1,g2,g3⟩:=b.out.2.1.d4;unfold bJ at d M ⊢;go_enter func142,ntmps142;go_upto_region 1 with fail;rw[<-d,<-o,<-m];clear d m o M;by_cases U:q=J
 ·subst U;by_cases Y:s=K
  ·subst Y
   cases R with
   | false=>
    obtain rfl:r=false:=by rw[I.out];simp
    go_wp2_with fail;refine(HC.out L b.out.2.2).mono ?_;rintro e Z ⟨rfl,c⟩;have HB:Hid (Bw w Z):=Lh (b.out.2.2.trans (c.mono b.out.2.2.size));clear c;dsimp only;go_wp2_with fail;go_ret;exact⟨rfl,HB.out⟩
   | true=>
    obtain rfl:r=rz:=by rw[I.out];simp
    go_wp2_with fail;refine(HC.out L b.out.2.2).mono ?_;rintro e Z ⟨rfl,c⟩;have HB:Hid (Bw w Z):=Lh (b.out.2.2.trans (c.mono b.out.2.2.size));obtain⟨f0,f1,f2,f3⟩:=(b.out.1.below c).d4;obtain⟨g0,g1,g2,g3⟩:=(b.out.2.1.below c).d4;clear c;dsimp only;go_wp2_with fail;go_ret;exact⟨rfl,HB.out⟩
  obtain rfl:r=false:=by rw[I.out];simp[Y]
  have e1:(s==K)=false:=by simpa using Y
  go_wp2_with fail;go_ret;exact⟨rfl,b.out.2.2⟩
 obtain rfl:r=false:=by rw[I.out];simp[U]
 have e1:(q==J)=false:=by simpa using U
 go_wp2_with fail;go_ret;exact⟨rfl,b.out.2.2⟩
end Go.Proofs.YtgfmbkoieacgoaaGreatDoor
