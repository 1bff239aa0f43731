/-
  28.
-/
import Derived.Test.YtjeeghafachebaaGreatU23
namespace Go.Proofs.YtjeeghafachebaaGreat
open Go Go.ChangeShapes Go.WideShapes Go.ChangeAt Go.WideMaps Go.WideElems Go.RowKit Go.Proofs.Tryz
structure bn where
 p:bH
 tv:Value
 z:Value
 ht:tv.oneCell'=true
 hz:z.oneCell'=true
def bn.cells(x:bn):Array Value:=#[Sv x.p.w.key,.int .i64 x.p.w.lo,.int .i64 x.p.w.hi,.int .i64 x.p.a.n,.int .i64 x.p.a.a,x.tv,x.z,.int .i64 x.p.r]
def cO:bn:=⟨sM,bS,fU,rfl,rfl⟩
theorem fo:(prog.info? 55).map (·.size)=some 8:=by kernel_rfl
theorem fG(x:bn):x.cells.all (·.oneCell')=true:=by
 rw[Array.all_eq_true'];intro v hv;simp only[bn.cells,List.mem_toArray,bf2,bf9,or_false]at hv;rcases hv with rfl | rfl | rfl | rfl | rfl | rfl | rfl | rfl <;> first | rfl | exact x.ht | exact x.hz
structure bM where
 o:dB
 tv:Value
 ht:tv.oneCell'=true
def bM.cells(x:bM):Array Value:=#[.bool x.o.late,.int .i64 x.o.item.kind,Sv x.o.item.key,.int .i64 x.o.item.time,.int .i64 x.o.item.value,Sv x.o.w.key,.int .i64 x.o.w.lo,.int .i64 x.o.w.hi,.int .i64 x.o.r,x.tv]
def RH:dB:=⟨false,kz,bX,0,[]⟩
def sK:bM:=⟨RH,bS,rfl⟩
theorem wT:(prog.info? 50).map (·.size)=some 10:=by kernel_rfl
theorem tQ(x:bM):x.cells.all (·.oneCell')=true:=by
 rw[Array.all_eq_true'];intro v hv;simp only[bM.cells,List.mem_toArray,bf2,bf9,or_false]at hv;rcases hv with rfl | rfl | rfl | rfl | rfl | rfl | rfl | rfl | rfl | rfl <;> first | rfl | exact x.ht
def bR(w:World)(x:bn):Prop:=bA w x.tv x.p.a.top/\dw x.z x.p.a.u x.p.a.v
def dO(w:World)(x:bM):Prop:=bA w x.tv x.o.v
theorem bR.below {w w':World} {x:bn}(h:bR w x)(hB:Bw w w'):bR w' x:=⟨h.1.below hB,h.2⟩
theorem dO.below {w w':World} {x:bM}(h:dO w x)(hB:Bw w w'):dO w' x:=bA.below h hB
def cz(w:World)(b:Nat)(x:bn):Prop:=w.heap[b]? =some (.cells x.cells 55 (0,0))
theorem cz.lt {w:World} {b:Nat} {x:bn}(h:cz w b x):b<w.heap.size:=(Array.getElem?_eq_some_iff.1 h).1
theorem cz.below {w w':World} {b:Nat} {x:bn}(h:cz w b x)(hB:Bw w w'):cz w' b x:=(hB.block b h.lt).trans h
theorem cz.cell {w:World} {b:Nat} {x:bn}(h:cz w b x)(i:Nat) {v:Value}(hi:x.cells[i]? =some v):w.cell? ⟨b,i,none⟩=some v:=by
 rw[cell_of_row _ _ _ _ _ _ h];exact hi
theorem cz.qi {w:World} {b:Nat} {x:bn}(h:cz w b x)(i:Nat):w.frozen? ⟨b,i,none⟩=false:=by
 unfold cz at h;simp[World.frozen?,h]
theorem cz.grown {w w':World} {b:Nat} {x:bn} {row:Option Nat}(h:cz w b x)(hg:w.grownBy w' row)(hne:some b≠row):cz w' b x:=(hg.block b h.lt hne).trans h
theorem cz.reset {w:World} {b:Nat} {x:bn}(h:cz w b x)(y:bn):cz (w.setRow b y.cells) b y:=setRow_heap w b _ _ _ _ h
theorem fO(w:World)(x:bn):cz ((w.alloc (Obj.cells cO.cells 55)).setRow w.heap.size x.cells) w.heap.size x/\Bw w ((w.alloc (Obj.cells cO.cells 55)).setRow w.heap.size x.cells):=
 ⟨setRow_heap _ _ _ _ _ _ (bg5 w _),((Below.refl _ w).alloc (bfx _) _).trans ⟨rfl,rfl,rfl,by simp[World.setRow],λk hk=>setRow_other _ _ _ _ (by omega)⟩⟩
def dI(w:World)(a:Option Addr)(l:List bn):Prop:=
 l=[]∨∃b o,a=some ⟨b,o,none⟩/\∀i x,l[i]? =some x->∀j v,x.cells[j]? =some v->w.cell? ⟨b,o+i*8+j,none⟩=some v
theorem dI.below {w w':World} {a:Option Addr} {l:List bn}(h:dI w a l)(hB:Bw w w'):dI w' a l:=by
 rcases h with h | ⟨b,o,h,h'⟩
 ·exact .inl h
 exact .inr ⟨b,o,h,λi x hx j v hv=>(hB.cell (block_lt_of_cell (h' i x hx j v hv))).trans (h' i x hx j v hv)⟩
theorem tq {x:bn} {j:Nat} {v:Value}(h:x.cells[j]? =some v):j<8:=by
 have:=(Array.getElem?_eq_some_iff.1 h).1;simpa[bn.cells]using this
def bP(l:List bn):List Value:=l.flatMap λx=>x.cells.toList
def bY(w:World)(base:Nat)(v:Value)(l:List bn):Prop:=w.ownsRow base 55 8 v l.length (bP l)
theorem df(l:List bn):(bP l).length=l.length*8:=by
 induction l with
 | nil=>rfl
 | cons x l ih=>
  have:(bP (x::l)).length=8+(bP l).length:=by
   show(x.cells.toList++bP l).length=_;rw[bft];rfl
  rw[this,ih,bgy];omega
theorem nu(l:List bn):∀(i:Nat) (x:bn) (j:Nat) (v:Value),l[i]? =some x->x.cells[j]? =some v->(bP l)[i*8+j]? =some v:=by
 induction l with
 | nil=>intro i x j v h;simp at h
 | cons y l ih=>
  intro i x j v h hv;have hj:j<8:=tq hv;have hy:(bP (y::l))=y.cells.toList++bP l:=rfl;have hys:y.cells.toList.length=8:=rfl
  cases i with
  | zero=>
   simp only[bgp,bf5]at h;subst h;rw[hy,Nat.zero_mul,bgu,List.getElem?_append_left (by omega)]
   simpa using hv
  | succ i=>
   rw[hy,List.getElem?_append_right (by omega),hys,show(i+1)*8+j-8=i*8+j by omega]
   exact ih i x j v (by simpa using h) hv
theorem bY.nil(w:World)(base:Nat):bY w base (.slice none 0 0) []:=World.ownsRow_nil w base _ 8
theorem bY.form {w:World} {base:Nat} {v:Value} {l:List bn}(h:bY w base v l):∃a c,v=.slice a l.length c/\l.length<=c/\dI w a l:=by
 have hh:=h;rcases h.2 with⟨h1,h2⟩ | ⟨g,cap,cur,h1,_,_,hle,_⟩
 ·exact⟨none,0,by rw[h1,h2],by omega,.inl (bg3 h2)⟩
 refine⟨_,_,h1,hle,.inr ⟨g,0,rfl,λi x hx j u hu=>?_⟩⟩;unfold bY at hh;rw[h1]at hh;have hi:i<l.length:=(List.getElem?_eq_some_iff.1 hx).1;have hj:j<8:=tq hu;rw[show 0+i*8+j=i*8+j by omega,World.ownsRow.cellAt hh _ (by omega)]
 exact nu l i x j u hx hu
theorem bY.kept {w w':World} {base:Nat} {v:Value} {l:List bn}(h:bY w base v l) {row:Option Nat}(hg:w.grownBy w' row)(hne:v.ownBlock=none∨v.ownBlock≠row):bY w' base v l:=World.ownsRow.kept h hg hne
theorem bY.far {w w':World} {base:Nat} {v:Value} {l:List bn}(h:bY w base v l)(hB:Bw w w'):bY w' base v l:=
 h.kept (kQ hB) (by cases hv:v.ownBlock <;> simp)
theorem bY.lt {w:World} {base:Nat} {v:Value} {l:List bn}(h:bY w base v l) {k:Nat}(hk:v.ownBlock=some k):base<=k/\k<w.heap.size:=World.ownsRow.lt h k hk
theorem wD(l:List bn)(x:bn):bP (l++[x])=bP l++x.cells.toList:=by simp[bP]
theorem gJ {ops:Array Oper} {rest:List Oper} {o:Oper} {a:Act} {Q:Exit->Act->World->Prop} {w:World}(hgd:o.guard=none)(s x:Operand)
  (ho:o.op=.call { callee:=.builtin .append,args:=#[s,x],argTypes:=#[27,27] })
  (base:Nat) (v:Value) (l:List bn) (hs:a.eval s=v) (hown:bY w base v l) (u:bn) (g:Nat) (hx:a.eval x=.slice (some ⟨g,0,none⟩) 1 1) (hu:∀j z,u.cells[j]? =some z->w.cell? ⟨g,j,none⟩=some z)
  (hlen:l.length+1<=1000000) (hbase:base<=w.heap.size)
  (h:∀v' w',bY w' base v' (l++[u])->w.grownBy w' v.ownBlock->(v'.ownBlock=v.ownBlock∨v'.ownBlock=some w.heap.size)->wpList prog ops Q rest (a.put o.dst v') w'):
  wpList prog ops Q (o::rest) a w:=by
 obtain⟨i,hi,hz0,hz1,hz2⟩:=info_parts (P:=prog) (e:=55) (z:=.agg #[.string ⟨#[]⟩,.int .i64 0,.int .i64 0,.int .i64 0,.int .i64 0,.slice none 0 0,.complex .f64 0 0,.int .i64 0]) (size:=8) (bytes:=96) (by kernel_rfl)
 refine wpList_append_own_at _ hgd s x 27 ho base 55 i _ 8 96 underlying27 hi hz0 hz1 hz2 rfl (by decide) v l.length (bP l) hs hown ⟨g,0,none⟩ 1 1 u.cells.toList hx rfl ?_ ?_ (by unfold maxLen;omega) (by omega) hbase ?_
 ·intro j z hj;rw[addr_add,bgu];exact hu j z (by simpa using hj)
 ·intro z hz;exact Array.all_eq_true'.1 (fG u) z (by simpa using hz)
 intro v' w' k1 k2 _ k4;refine h v' w' ?_ k2 k4;unfold bY;rw[wD,bft];exact k1
theorem bY.below {w w':World} {base:Nat} {v:Value} {l:List bn}(h:bY w base v l)(hg:w.grownBy w' v.ownBlock)(hb:base<=w.heap.size):Below base w w':=
 ⟨hg.os,hg.tape,hg.output,hg.size,λk hk=>hg.block k (by omega) (λhe=>by have:=h.lt he.symm;omega)⟩
theorem zJ {l:List bn} {b o:Nat} {w:World}(h:∀i x,l[i]? =some x->∀j v,x.cells[j]? =some v->w.cell? ⟨b,o+i*8+j,none⟩=some v):∀(n:Nat) (u:Value),(bP l)[n]? =some u->w.cell? ((⟨b,o,none⟩:Addr).add n)=some u:=by
 intro n u hu;have hn:=(List.getElem?_eq_some_iff.1 hu).1;rw[df]at hn;have hi:n / 8<l.length:=by omega
 have hx:l[n / 8]? =some l[n / 8]:=bfs hi;have hj:n % 8<8:=by omega
 obtain⟨v,hv⟩:∃v,(l[n / 8]).cells[n % 8]? =some v:=by
  have hs:(l[n / 8]).cells.size=8:=rfl;exact⟨_,bgm (by rw[hs];exact hj)⟩
 have h1:=nu l (n / 8) _ (n % 8) v hx hv;have e:n / 8*8+n % 8=n:=by omega
 rw[e,hu]at h1;cases h1
 rw[addr_add];have h2:=h (n / 8) _ hx (n % 8) u hv
 rwa [Nat.add_assoc,e]at h2
theorem lh:((prog.info? 55).map λi=>(i.zero,i.size,i.bytes))=some (some (.agg #[.string ⟨#[]⟩,.int .i64 0,.int .i64 0,.int .i64 0,.int .i64 0,.slice none 0 0,.complex .f64 0 0,.int .i64 0]),8,96):=by kernel_rfl
theorem mi(l:List bn):∀u∈bP l,u.oneCell'=true:=by
 intro u hu;obtain⟨x,_,hx⟩:=List.mem_flatMap.1 hu;exact Array.all_eq_true'.1 (fG x) u (by simpa using hx)
theorem Gg(w:World)(base:Nat)(v:Value)(l1 l2:List bn)(hown:bY w base v l1)(a:Option Addr)(c:Nat)(h:dI w a l2)(hl:l1.length+l2.length<=1000000)(hb:base<=w.heap.size)(ty:TypeId):
  ∃v' w',(Builtin.append_ #[27,27] ty #[v,.slice a l2.length c]).run prog w=.ok v' w'/\bY w' base v' (l1++l2)/\w.grownBy w' v.ownBlock/\(v'.ownBlock=v.ownBlock∨v'.ownBlock=some w.heap.size):=by
 obtain⟨i,hi,hz,hs,hby⟩:=info_parts lh;have some_case:∀ad:Addr,(∀(j:Nat) (u:Value),(bP l2)[j]? =some u->w.cell? (ad.add j)=some u)->
   ∃v' w',(Builtin.append_ #[27,27] ty #[v,.slice (some ad) l2.length c]).run prog w=.ok v' w'/\bY w' base v' (l1++l2)/\w.grownBy w' v.ownBlock/\(v'.ownBlock=v.ownBlock∨v'.ownBlock=some w.heap.size):=by
  intro ad hc;obtain⟨v',w',h1,h2,h3,_,h5⟩:=run_append_own_at (P:=prog) w base 27 ty 55 i _ 8 96 underlying27 hi hz hs hby rfl (by decide) v l1.length (bP l1) hown ad l2.length c (bP l2) (df l2) hc (mi l2)
   (by unfold maxLen;omega) (by omega) hb
  refine⟨v',w',h1,?_,h3,h5⟩;unfold bY;rw[bft,show bP (l1++l2)=bP l1++bP l2 by simp[bP]]
  exact h2
 cases a with
 | some ad=>
  rcases h with rfl | ⟨b,o,ha,hc⟩
  ·exact some_case ad λj u hj=>by simp[bP]at hj
  cases ha
  exact some_case _ (zJ hc)
 | none=>
  have h0:l2=[]:=by
   rcases h with h | ⟨_,_,ha,_⟩
   ·exact h
   cases ha
  subst h0;refine⟨v,w,?_,by simpa using hown,⟨rfl,rfl,rfl,bfx _,λ_ _ _=>rfl⟩,.inl rfl⟩
  rcases hown.2 with⟨hv,hn⟩ | ⟨g,cap,cur,hv,_,hg,hle,_⟩
  ·rw[hv];simp[Builtin.append_,run_underlying underlying27,sizeOf,typeInfo,hi,Builtin.lenOf,Builtin.firstCells]
  rw[hv];simp[Builtin.append_,run_underlying underlying27,sizeOf,typeInfo,hi,Builtin.lenOf,Builtin.firstCells,storeCells,loadCells,hle]
theorem fD {ops:Array Oper} {rest:List Oper} {o:Oper} {a:Act} {w:World} {Q:Exit->Act->World->Prop}(hg:o.guard=none)(y:Operand)(ho:o.op=.buildSlice 27 1 #[(0,y)])(x:bn)(hy:a.eval y=.agg x.cells)
  (h:wpList prog ops Q rest (a.put o.dst (.slice (some ⟨w.heap.size,0,none⟩) 1 1)) (w.alloc (.cells x.cells 55))):wpList prog ops Q (o::rest) a w:=by
 have hF:Instr.fill (λi=>some (i*8,8)) ((Array.range (1*8)).map ((Value.agg #[.string ⟨#[]⟩,.int .i64 0,.int .i64 0,.int .i64 0,.int .i64 0,.slice none 0 0,.complex .f64 0 0,.int .i64 0]).cells[· % (Value.agg #[.string ⟨#[]⟩,.int .i64 0,.int .i64 0,.int .i64 0,.int .i64 0,.slice none 0 0,.complex .f64 0 0,.int .i64 0]).cells.size]!)) [(0,.agg x.cells)]=some x.cells:=by kernel_rfl
 obtain⟨i,hi,hz0,hz1,hz2⟩:=info_parts lh;refine wpList_buildSlice hg 27 55 1 _ ho x.cells i _ underlying27 hi hz0 (by rw[hz1];decide) (by rw[hz1];decide) ?_ h
 rw[hz1];simp only[bgb,bgc,bge,hy];exact hF
theorem bY.mono {w:World} {base base':Nat} {v:Value} {l:List bn}(h:bY w base v l)(hb:base'<=base):bY w base' v l:=by
 refine⟨h.1,?_⟩;rcases h.2 with h | ⟨g,c,cur,h1,h2,r⟩
 ·exact .inl h
 exact .inr ⟨g,c,cur,h1,bgn hb h2,r⟩
theorem bY.P8(w:World)(base:Nat)(hb:base<=w.heap.size):bY (w.alloc (.cells #[] 55)) base (.slice (some ⟨w.heap.size,0,none⟩) 0 0) []:=
 ⟨rfl,.inr ⟨w.heap.size,0,#[],rfl,hb,bg5 w _,bfx _,by decide,rfl,rfl⟩⟩
theorem KC {o:Oper} {a:Act} {w:World} {K:Act->World->Prop} {Q:Exit->Act->World->Prop}(s x:Operand)
  (ho:o.op=.call { callee:=.builtin .append,args:=#[s,x],argTypes:=#[27,27] }) (base:Nat) (v:Value) (l1 l2:List bn) (hs:a.eval s=v) (hown:bY w base v l1)
  (sa:Option Addr) (c n:Nat) (hn:n=l2.length) (hx:a.eval x=.slice sa n c) (hm:dI w sa l2) (hl:l1.length+l2.length<=1000000) (hb:base<=w.heap.size)
  (h:∀v' w',bY w' base v' (l1++l2)->w.grownBy w' v.ownBlock->(v'.ownBlock=v.ownBlock∨v'.ownBlock=some w.heap.size)->K (a.put o.dst v') w'):o.wp prog a w K Q:=by
 subst hn;obtain⟨v',w',hr,h2,h3,h4⟩:=Gg w base v l1 l2 hown sa c hm hl hb o.type;unfold Oper.wp execOp;simp only[ho,resolve,invoke,builtin,Sem.run_bind,Sem.run_pure,Result.andThen_ok,bgb,bgc,bge,hs,hx,hr];exact h v' w' h2 h3 h4
theorem M4 {o:Oper} {a:Act} {w:World} {K:Act->World->Prop} {Q:Exit->Act->World->Prop}(x y:Operand)(ho:o.op=.store 55 x y)(g:Nat)(u old:bn)
  (hx:a.eval x=.pointer (some ⟨g,0,none⟩)) (hy:a.eval y=.agg u.cells) (hg:cz w g old) (h:K (a.put o.dst undef) (w.setRow g u.cells)):o.wp prog a w K Q:=
 wp_store_row _ x y ho g u.cells hx hy _ old.cells hg fo rfl (fG u) h
theorem bY.qi {w:World} {base g c n:Nat} {l:List bn}(h:bY w base (.slice (some ⟨g,0,none⟩) n c) l)(hn:n=l.length)(j:Nat):w.frozen? ⟨g,j,none⟩=false:=by
 subst hn;exact World.ownsRow.frozenAt h j
theorem dI.take {w:World} {a:Option Addr} {l:List bn}(h:dI w a l)(i:Nat):dI w a (l.take i):=by
 rcases h with h | ⟨b,o,h,h'⟩
 ·left
  rw[h,List.take_nil]
 right
 refine⟨b,o,h,λj x hx=>h' j x ?_⟩;rw[List.getElem?_take]at hx
 split at hx
 ·exact hx
 cases hx
theorem dI.cut {w:World} {b o:Nat} {l:List bn}(h:dI w (some ⟨b,o,none⟩) l)(i:Nat):dI w (some ⟨b,o+i*8,none⟩) (l.drop i):=by
 rcases h with h | ⟨b',o',h,h'⟩
 ·left
  rw[h,List.drop_nil]
 right
 cases h
 refine⟨b,o+i*8,rfl,λj x hx k v hv=>?_⟩;rw[List.getElem?_drop]at hx;have:=h' (i+j) x hx k v hv
 rwa [show o+(i+j)*8+k=o+i*8+j*8+k by omega]at this
theorem mV(w:World)(a:Option Addr)(n c i:Nat)(h:i<=c):
  (Instr.slice 27 (.slice a n c) none (some (.int .i64 (i:Int))) none).run prog w=.ok (.slice a i c) w:=by
 have hz:∀w,(sizeOf 55).run prog w=.ok 8 w:=sizeOf55;cases a <;> simp[Instr.slice,run_underlying underlying27,Instr.sliceBounds,run_sliceBound,hz,h,xK]
def D8(w:World)(b:Nat)(x:bn):Prop:=w.cell? ⟨b,0,none⟩=some (Sv x.p.w.key)/\w.cell? ⟨b,1,none⟩=some (.int .i64 x.p.w.lo)/\w.cell? ⟨b,2,none⟩=some (.int .i64 x.p.w.hi)/\w.cell? ⟨b,3,none⟩=some (.int .i64 x.p.a.n)/\w.cell? ⟨b,4,none⟩=some (.int .i64 x.p.a.a)/\w.cell? ⟨b,5,none⟩=some x.tv/\w.cell? ⟨b,6,none⟩=some x.z/\w.cell? ⟨b,7,none⟩=some (.int .i64 x.p.r)
theorem cz.d8 {w:World} {b:Nat} {x:bn}(h:cz w b x):D8 w b x:=⟨h.cell 0 rfl,h.cell 1 rfl,h.cell 2 rfl,h.cell 3 rfl,h.cell 4 rfl,h.cell 5 rfl,h.cell 6 rfl,h.cell 7 rfl⟩
def jN(w:World)(b:Nat)(x:bM):Prop:=w.heap[b]? =some (.cells x.cells 50 (0,0))
theorem jN.lt {w:World} {b:Nat} {x:bM}(h:jN w b x):b<w.heap.size:=(Array.getElem?_eq_some_iff.1 h).1
theorem jN.below {w w':World} {b:Nat} {x:bM}(h:jN w b x)(hB:Bw w w'):jN w' b x:=(hB.block b h.lt).trans h
theorem jN.cell {w:World} {b:Nat} {x:bM}(h:jN w b x)(i:Nat) {v:Value}(hi:x.cells[i]? =some v):w.cell? ⟨b,i,none⟩=some v:=by
 rw[cell_of_row _ _ _ _ _ _ h];exact hi
theorem BQ(w:World)(x:bM):jN ((w.alloc (Obj.cells sK.cells 50)).setRow w.heap.size x.cells) w.heap.size x/\Bw w ((w.alloc (Obj.cells sK.cells 50)).setRow w.heap.size x.cells):=
 ⟨setRow_heap _ _ _ _ _ _ (bg5 w _),((Below.refl _ w).alloc (bfx _) _).trans ⟨rfl,rfl,rfl,by simp[World.setRow],λk hk=>setRow_other _ _ _ _ (by omega)⟩⟩
def gH(w:World)(a:Option Addr)(l:List bM):Prop:=
 l=[]∨∃b o,a=some ⟨b,o,none⟩/\∀i x,l[i]? =some x->∀j v,x.cells[j]? =some v->w.cell? ⟨b,o+i*10+j,none⟩=some v
theorem gH.below {w w':World} {a:Option Addr} {l:List bM}(h:gH w a l)(hB:Bw w w'):gH w' a l:=by
 rcases h with h | ⟨b,o,h,h'⟩
 ·exact .inl h
 exact .inr ⟨b,o,h,λi x hx j v hv=>(hB.cell (block_lt_of_cell (h' i x hx j v hv))).trans (h' i x hx j v hv)⟩
theorem CQ {x:bM} {j:Nat} {v:Value}(h:x.cells[j]? =some v):j<10:=by
 have:=(Array.getElem?_eq_some_iff.1 h).1;simpa[bM.cells]using this
def gD(l:List bM):List Value:=l.flatMap λx=>x.cells.toList
def fe(w:World)(base:Nat)(v:Value)(l:List bM):Prop:=w.ownsRow base 50 10 v l.length (gD l)
theorem lH(l:List bM):(gD l).length=l.length*10:=by
 induction l with
 | nil=>rfl
 | cons x l ih=>
  have:(gD (x::l)).length=10+(gD l).length:=by
   show(x.cells.toList++gD l).length=_;rw[bft];rfl
  rw[this,ih,bgy];omega
theorem vD(l:List bM):∀(i:Nat) (x:bM) (j:Nat) (v:Value),l[i]? =some x->x.cells[j]? =some v->(gD l)[i*10+j]? =some v:=by
 induction l with
 | nil=>intro i x j v h;simp at h
 | cons y l ih=>
  intro i x j v h hv;have hj:j<10:=CQ hv;have hy:(gD (y::l))=y.cells.toList++gD l:=rfl;have hys:y.cells.toList.length=10:=rfl
  cases i with
  | zero=>
   simp only[bgp,bf5]at h;subst h;rw[hy,Nat.zero_mul,bgu,List.getElem?_append_left (by omega)]
   simpa using hv
  | succ i=>
   rw[hy,List.getElem?_append_right (by omega),hys,show(i+1)*10+j-10=i*10+j by omega]
   exact ih i x j v (by simpa using h) hv
theorem fe.nil(w:World)(base:Nat):fe w base (.slice none 0 0) []:=World.ownsRow_nil w base _ 10
theorem fe.form {w:World} {base:Nat} {v:Value} {l:List bM}(h:fe w base v l):∃a c,v=.slice a l.length c/\l.length<=c/\gH w a l:=by
 have hh:=h;rcases h.2 with⟨h1,h2⟩ | ⟨g,cap,cur,h1,_,_,hle,_⟩
 ·exact⟨none,0,by rw[h1,h2],by omega,.inl (bg3 h2)⟩
 refine⟨_,_,h1,hle,.inr ⟨g,0,rfl,λi x hx j u hu=>?_⟩⟩;unfold fe at hh;rw[h1]at hh;have hi:i<l.length:=(List.getElem?_eq_some_iff.1 hx).1;have hj:j<10:=CQ hu;rw[show 0+i*10+j=i*10+j by omega,World.ownsRow.cellAt hh _ (by omega)]
 exact vD l i x j u hx hu
theorem fe.kept {w w':World} {base:Nat} {v:Value} {l:List bM}(h:fe w base v l) {row:Option Nat}(hg:w.grownBy w' row)(hne:v.ownBlock=none∨v.ownBlock≠row):fe w' base v l:=World.ownsRow.kept h hg hne
theorem fe.far {w w':World} {base:Nat} {v:Value} {l:List bM}(h:fe w base v l)(hB:Bw w w'):fe w' base v l:=
 h.kept (kQ hB) (by cases hv:v.ownBlock <;> simp)
theorem fe.lt {w:World} {base:Nat} {v:Value} {l:List bM}(h:fe w base v l) {k:Nat}(hk:v.ownBlock=some k):base<=k/\k<w.heap.size:=World.ownsRow.lt h k hk
theorem Fe(l:List bM)(x:bM):gD (l++[x])=gD l++x.cells.toList:=by simp[gD]
theorem rE {ops:Array Oper} {rest:List Oper} {o:Oper} {a:Act} {Q:Exit->Act->World->Prop} {w:World}(hgd:o.guard=none)(s x:Operand)
  (ho:o.op=.call { callee:=.builtin .append,args:=#[s,x],argTypes:=#[30,30] })
  (base:Nat) (v:Value) (l:List bM) (hs:a.eval s=v) (hown:fe w base v l) (u:bM) (g:Nat) (hx:a.eval x=.slice (some ⟨g,0,none⟩) 1 1) (hu:∀j z,u.cells[j]? =some z->w.cell? ⟨g,j,none⟩=some z)
  (hlen:l.length+1<=1000000) (hbase:base<=w.heap.size)
  (h:∀v' w',fe w' base v' (l++[u])->w.grownBy w' v.ownBlock->(v'.ownBlock=v.ownBlock∨v'.ownBlock=some w.heap.size)->wpList prog ops Q rest (a.put o.dst v') w'):
  wpList prog ops Q (o::rest) a w:=by
 obtain⟨i,hi,hz0,hz1,hz2⟩:=info_parts (P:=prog) (e:=50) (z:=.agg #[.bool false,.int .i64 0,.string ⟨#[]⟩,.int .i64 0,.int .i64 0,.string ⟨#[]⟩,.int .i64 0,.int .i64 0,.int .i64 0,.slice none 0 0]) (size:=10) (bytes:=112) (by kernel_rfl)
 refine wpList_append_own_at _ hgd s x 30 ho base 50 i _ 10 112 underlying30 hi hz0 hz1 hz2 rfl (by decide) v l.length (gD l) hs hown ⟨g,0,none⟩ 1 1 u.cells.toList hx rfl ?_ ?_ (by unfold maxLen;omega) (by omega) hbase ?_
 ·intro j z hj;rw[addr_add,bgu];exact hu j z (by simpa using hj)
 ·intro z hz;exact Array.all_eq_true'.1 (tQ u) z (by simpa using hz)
 intro v' w' k1 k2 _ k4;refine h v' w' ?_ k2 k4;unfold fe;rw[Fe,bft];exact k1
theorem fe.below {w w':World} {base:Nat} {v:Value} {l:List bM}(h:fe w base v l)(hg:w.grownBy w' v.ownBlock)(hb:base<=w.heap.size):Below base w w':=
 ⟨hg.os,hg.tape,hg.output,hg.size,λk hk=>hg.block k (by omega) (λhe=>by have:=h.lt he.symm;omega)⟩
theorem Jo {l:List bM} {b o:Nat} {w:World}(h:∀i x,l[i]? =some x->∀j v,x.cells[j]? =some v->w.cell? ⟨b,o+i*10+j,none⟩=some v):∀(n:Nat) (u:Value),(gD l)[n]? =some u->w.cell? ((⟨b,o,none⟩:Addr).add n)=some u:=by
 intro n u hu;have hn:=(List.getElem?_eq_some_iff.1 hu).1;rw[lH]at hn;have hi:n / 10<l.length:=by omega
 have hx:l[n / 10]? =some l[n / 10]:=bfs hi;have hj:n % 10<10:=by omega
 obtain⟨v,hv⟩:∃v,(l[n / 10]).cells[n % 10]? =some v:=by
  have hs:(l[n / 10]).cells.size=10:=rfl;exact⟨_,bgm (by rw[hs];exact hj)⟩
 have h1:=vD l (n / 10) _ (n % 10) v hx hv;have e:n / 10*10+n % 10=n:=by omega
 rw[e,hu]at h1;cases h1
 rw[addr_add];have h2:=h (n / 10) _ hx (n % 10) u hv
 rwa [Nat.add_assoc,e]at h2
theorem xV:((prog.info? 50).map λi=>(i.zero,i.size,i.bytes))=some (some (.agg #[.bool false,.int .i64 0,.string ⟨#[]⟩,.int .i64 0,.int .i64 0,.string ⟨#[]⟩,.int .i64 0,.int .i64 0,.int .i64 0,.slice none 0 0]),10,112):=by kernel_rfl
theorem Gl(l:List bM):∀u∈gD l,u.oneCell'=true:=by
 intro u hu;obtain⟨x,_,hx⟩:=List.mem_flatMap.1 hu;exact Array.all_eq_true'.1 (tQ x) u (by simpa using hx)
theorem Gf(w:World)(base:Nat)(v:Value)(l1 l2:List bM)(hown:fe w base v l1)(a:Option Addr)(c:Nat)(h:gH w a l2)(hl:l1.length+l2.length<=1000000)(hb:base<=w.heap.size)(ty:TypeId):
  ∃v' w',(Builtin.append_ #[30,30] ty #[v,.slice a l2.length c]).run prog w=.ok v' w'/\fe w' base v' (l1++l2)/\w.grownBy w' v.ownBlock/\(v'.ownBlock=v.ownBlock∨v'.ownBlock=some w.heap.size):=by
 obtain⟨i,hi,hz,hs,hby⟩:=info_parts xV;have some_case:∀ad:Addr,(∀(j:Nat) (u:Value),(gD l2)[j]? =some u->w.cell? (ad.add j)=some u)->
   ∃v' w',(Builtin.append_ #[30,30] ty #[v,.slice (some ad) l2.length c]).run prog w=.ok v' w'/\fe w' base v' (l1++l2)/\w.grownBy w' v.ownBlock/\(v'.ownBlock=v.ownBlock∨v'.ownBlock=some w.heap.size):=by
  intro ad hc;obtain⟨v',w',h1,h2,h3,_,h5⟩:=run_append_own_at (P:=prog) w base 30 ty 50 i _ 10 112 underlying30 hi hz hs hby rfl (by decide) v l1.length (gD l1) hown ad l2.length c (gD l2) (lH l2) hc (Gl l2)
   (by unfold maxLen;omega) (by omega) hb
  refine⟨v',w',h1,?_,h3,h5⟩;unfold fe;rw[bft,show gD (l1++l2)=gD l1++gD l2 by simp[gD]]
  exact h2
 cases a with
 | some ad=>
  rcases h with rfl | ⟨b,o,ha,hc⟩
  ·exact some_case ad λj u hj=>by simp[gD]at hj
  cases ha
  exact some_case _ (Jo hc)
 | none=>
  have h0:l2=[]:=by
   rcases h with h | ⟨_,_,ha,_⟩
   ·exact h
   cases ha
  subst h0;refine⟨v,w,?_,by simpa using hown,⟨rfl,rfl,rfl,bfx _,λ_ _ _=>rfl⟩,.inl rfl⟩
  rcases hown.2 with⟨hv,hn⟩ | ⟨g,cap,cur,hv,_,hg,hle,_⟩
  ·rw[hv];simp[Builtin.append_,run_underlying underlying30,sizeOf,typeInfo,hi,Builtin.lenOf,Builtin.firstCells]
  rw[hv];simp[Builtin.append_,run_underlying underlying30,sizeOf,typeInfo,hi,Builtin.lenOf,Builtin.firstCells,storeCells,loadCells,hle]
theorem mH {ops:Array Oper} {rest:List Oper} {o:Oper} {a:Act} {w:World} {Q:Exit->Act->World->Prop}(hg:o.guard=none)(y:Operand)(ho:o.op=.buildSlice 30 1 #[(0,y)])(x:bM)(hy:a.eval y=.agg x.cells)
  (h:wpList prog ops Q rest (a.put o.dst (.slice (some ⟨w.heap.size,0,none⟩) 1 1)) (w.alloc (.cells x.cells 50))):wpList prog ops Q (o::rest) a w:=by
 have hF:Instr.fill (λi=>some (i*10,10)) ((Array.range (1*10)).map ((Value.agg #[.bool false,.int .i64 0,.string ⟨#[]⟩,.int .i64 0,.int .i64 0,.string ⟨#[]⟩,.int .i64 0,.int .i64 0,.int .i64 0,.slice none 0 0]).cells[· % (Value.agg #[.bool false,.int .i64 0,.string ⟨#[]⟩,.int .i64 0,.int .i64 0,.string ⟨#[]⟩,.int .i64 0,.int .i64 0,.int .i64 0,.slice none 0 0]).cells.size]!)) [(0,.agg x.cells)]=some x.cells:=by kernel_rfl
 obtain⟨i,hi,hz0,hz1,hz2⟩:=info_parts xV;refine wpList_buildSlice hg 30 50 1 _ ho x.cells i _ underlying30 hi hz0 (by rw[hz1];decide) (by rw[hz1];decide) ?_ h
 rw[hz1];simp only[bgb,bgc,bge,hy];exact hF
theorem sJ {o:Oper} {a:Act} {w:World} {K:Act->World->Prop} {Q:Exit->Act->World->Prop}(y:Operand)(ho:o.op=.buildSlice 30 1 #[(0,y)])(x:bM)(hy:a.eval y=.agg x.cells)
  (h:K (a.put o.dst (.slice (some ⟨w.heap.size,0,none⟩) 1 1)) (w.alloc (.cells x.cells 50))):o.wp prog a w K Q:=by
 have hF:Instr.fill (λi=>some (i*10,10)) ((Array.range (1*10)).map ((Value.agg #[.bool false,.int .i64 0,.string ⟨#[]⟩,.int .i64 0,.int .i64 0,.string ⟨#[]⟩,.int .i64 0,.int .i64 0,.int .i64 0,.slice none 0 0]).cells[· % (Value.agg #[.bool false,.int .i64 0,.string ⟨#[]⟩,.int .i64 0,.int .i64 0,.string ⟨#[]⟩,.int .i64 0,.int .i64 0,.int .i64 0,.slice none 0 0]).cells.size]!)) [(0,.agg x.cells)]=some x.cells:=by kernel_rfl
 obtain⟨i,hi,hz0,hz1,hz2⟩:=info_parts xV;refine wp_buildSlice 30 50 1 _ ho x.cells i _ underlying30 hi hz0 (by rw[hz1];decide) (by rw[hz1];decide) ?_ h
 rw[hz1];simp only[bgb,bgc,bge,hy];exact hF
theorem gH.one {w:World} {g:Nat} {y:bM}(h:∀j z,y.cells[j]? =some z->w.cell? ⟨g,j,none⟩=some z):gH w (some ⟨g,0,none⟩) [y]:=by
 refine .inr ⟨g,0,rfl,λi x hx j v hv=>?_⟩
 cases i with
 | zero=>
  simp only[bgp,bf5]at hx;subst hx;rw[show 0+0*10+j=j by omega]
  exact h j v hv
 | succ i=>simp at hx
theorem rF {o:Oper} {a:Act} {w:World} {K:Act->World->Prop} {Q:Exit->Act->World->Prop}(s x:Operand)
  (ho:o.op=.call { callee:=.builtin .append,args:=#[s,x],argTypes:=#[30,30] }) (base:Nat) (v:Value) (l1 l2:List bM) (hs:a.eval s=v) (hown:fe w base v l1)
  (sa:Option Addr) (c n:Nat) (hn:n=l2.length) (hx:a.eval x=.slice sa n c) (hm:gH w sa l2) (hl:l1.length+l2.length<=1000000) (hb:base<=w.heap.size)
  (h:∀v' w',fe w' base v' (l1++l2)->w.grownBy w' v.ownBlock->(v'.ownBlock=v.ownBlock∨v'.ownBlock=some w.heap.size)->K (a.put o.dst v') w'):o.wp prog a w K Q:=by
 subst hn;obtain⟨v',w',hr,h2,h3,h4⟩:=Gf w base v l1 l2 hown sa c hm hl hb o.type;unfold Oper.wp execOp;simp only[ho,resolve,invoke,builtin,Sem.run_bind,Sem.run_pure,Result.andThen_ok,bgb,bgc,bge,hs,hx,hr];exact h v' w' h2 h3 h4
def Sg(w:World)(b:Nat)(x:bM):Prop:=w.cell? ⟨b,0,none⟩=some (.bool x.o.late)/\w.cell? ⟨b,1,none⟩=some (.int .i64 x.o.item.kind)/\w.cell? ⟨b,2,none⟩=some (Sv x.o.item.key)/\w.cell? ⟨b,3,none⟩=some (.int .i64 x.o.item.time)/\w.cell? ⟨b,4,none⟩=some (.int .i64 x.o.item.value)/\w.cell? ⟨b,5,none⟩=some (Sv x.o.w.key)/\w.cell? ⟨b,6,none⟩=some (.int .i64 x.o.w.lo)/\w.cell? ⟨b,7,none⟩=some (.int .i64 x.o.w.hi)/\w.cell? ⟨b,8,none⟩=some (.int .i64 x.o.r)/\w.cell? ⟨b,9,none⟩=some x.tv
theorem jN.Qu {w:World} {b:Nat} {x:bM}(h:jN w b x):Sg w b x:=⟨h.cell 0 rfl,h.cell 1 rfl,h.cell 2 rfl,h.cell 3 rfl,h.cell 4 rfl,h.cell 5 rfl,h.cell 6 rfl,h.cell 7 rfl,h.cell 8 rfl,h.cell 9 rfl⟩
end Go.Proofs.YtjeeghafachebaaGreat
