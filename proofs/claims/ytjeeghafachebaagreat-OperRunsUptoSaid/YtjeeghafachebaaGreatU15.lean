/-
  15.
-/
import Derived.Test.YtjeeghafachebaaGreatU13
import Derived.Test.YtjeeghafachebaaGreatU14
namespace Go.Proofs.YtjeeghafachebaaGreat
open Go Go.RowKit Go.Proofs.Tryz
theorem J7:(prog.info? 23).map (·.size)=some 6:=by kernel_rfl
theorem Mv(q:bz):q.cells.all (·.oneCell')=true:=by
 rw[Array.all_eq_true'];intro v hv;simp only[bz.cells,List.mem_toArray,bf2,bf9,or_false]at hv;rcases hv with rfl | rfl | rfl | rfl | rfl | rfl <;> rfl
theorem results_cell_row {P:Program} {fn:Func} {p:Tmp} {ty:TypeId}(h:fn.results=#[.cell p ty])(tmps:Array Value)(w:World)(g:Nat)(t:TypeId)(cs:Array Value)(fr:Nat × Nat)(d:TypeDesc)
  (hp:tmps.getD p undef=.pointer (some ⟨g,0,none⟩)) (hg:w.heap[g]? =some (.cells cs t fr))
  (hu:P.underlying ty=some d) (hd:(match d with | .struct _ | .array _ _=>true | _=>false)=true) (hi:(P.info? ty).map (·.size)=some cs.size):
  (results fn tmps).run P w=.ok (.agg cs) w:=by
 have hp':tmps[p]?.getD undef=.pointer (some ⟨g,0,none⟩):=by simpa using hp
 simp[results,h,hp',asAddr,run_loadVar_row w g t ty cs fr d hg hu hd hi]
theorem bK {P:Program} {fn:Func} {p u:Tmp} {ty:TypeId}(h:fn.results=#[.cell p ty,.tmp u])(tmps:Array Value)(w:World)(g:Nat)(t:TypeId)(cs:Array Value)(fr:Nat × Nat)(d:TypeDesc)
  (hp:tmps.getD p undef=.pointer (some ⟨g,0,none⟩)) (hg:w.heap[g]? =some (.cells cs t fr))
  (hu:P.underlying ty=some d) (hd:(match d with | .struct _ | .array _ _=>true | _=>false)=true) (hi:(P.info? ty).map (·.size)=some cs.size):
  (results fn tmps).run P w=.ok (.tuple #[.agg cs,tmps.getD u undef]) w:=by
 have hp':tmps[p]?.getD undef=.pointer (some ⟨g,0,none⟩):=by simpa using hp
 simp[results,h,hp',asAddr,run_loadVar_row w g t ty cs fr d hg hu hd hi]
def dn(w:World)(g:Nat)(x:bz):Prop:=w.heap[g]? =some (.cells x.cells 23 (0,0))
theorem dn.below {w w':World} {g:Nat} {x:bz}(h:dn w g x)(hB:Bw w w'):dn w' g x:=(hB.block _ (Array.getElem?_eq_some_iff.1 h).1).trans h
theorem dn.cell {w:World} {g:Nat} {x:bz}(h:dn w g x)(i:Nat) {v:Value}(hi:x.cells[i]? =some v):w.cell? ⟨g,i,none⟩=some v:=by
 rw[cell_of_row _ _ _ _ _ _ h];exact hi
theorem dn.lt {w:World} {g:Nat} {x:bz}(h:dn w g x):g<w.heap.size:=(Array.getElem?_eq_some_iff.1 h).1
def D6(w:World)(g:Nat)(kind size slide late agg k:Int):Prop:=
 w.cell? ⟨g,0,none⟩=some (.int .i64 kind)/\w.cell? ⟨g,1,none⟩=some (.int .i64 size)/\w.cell? ⟨g,2,none⟩=some (.int .i64 slide)/\w.cell? ⟨g,3,none⟩=some (.int .i64 late)/\w.cell? ⟨g,4,none⟩=some (.int .i64 agg)/\w.cell? ⟨g,5,none⟩=some (.int .i64 k)
theorem dn.d6 {w:World} {g:Nat} {x:bz}(h:dn w g x):D6 w g x.kind x.size x.slide x.late x.agg x.k:=⟨h.cell 0 rfl,h.cell 1 rfl,h.cell 2 rfl,h.cell 3 rfl,h.cell 4 rfl,h.cell 5 rfl⟩
theorem FR(w:World)(x:bz):dn ((w.alloc (Obj.cells #[.int .i64 0,.int .i64 0,.int .i64 0,.int .i64 0,.int .i64 0,.int .i64 0] 23)).setRow w.heap.size x.cells) w.heap.size x/\
  Bw w ((w.alloc (Obj.cells #[.int .i64 0,.int .i64 0,.int .i64 0,.int .i64 0,.int .i64 0,.int .i64 0] 23)).setRow w.heap.size x.cells):=
 ⟨setRow_heap _ _ _ _ _ _ (bg5 w _),((Below.refl _ w).alloc (bfx _) _).trans ⟨rfl,rfl,rfl,by simp[World.setRow],λi hi=>setRow_other _ _ _ _ (by omega)⟩⟩
structure bg where
 key:List (BitVec 8)
 lo:Int
 hi:Int
deriving DecidableEq
def bX:bg:=⟨[],0,0⟩
def bg.cells(x:bg):Array Value:=#[Sv x.key,.int .i64 x.lo,.int .i64 x.hi]
def bg.bB(x:bg):Bool:=kr x.key && decide (0<=x.lo/\x.lo<=1099511627776/\x.lo<x.hi/\x.hi<=4398046511104)
def lC(a b:Int):Int:=if a<b then -1 else if b<a then 1 else 0
def wQ(a b:List (BitVec 8)):Bool:=Op.bytesLess (strOf a).toList (strOf b).toList
def qW(a b:List (BitVec 8)):Int:=if wQ a b=true then -1 else if wQ b a=true then 1 else 0
def jW(a b c:Int):Int:=if a≠0 then a else if b≠0 then b else c
def ve(a b:bg):Int:=jW (lC a.hi b.hi) (lC a.lo b.lo) (qW a.key b.key)
def gG(a b:bg):Int:=jW (qW a.key b.key) (lC a.lo b.lo) (lC a.hi b.hi)
def ji(x:bg)(mark:Int):Bool:=x.bB && decide (x.hi<=mark)
def gy(q:bz)(x:bg)(mark:Int):Bool:=q.bB && x.bB && decide (x.hi+q.late<=mark)
theorem ko:∀x y:List UInt8,(!Op.bytesLess x y && !(x==y))=Op.bytesLess y x
 | [],[]=>rfl
 | [],_::_=>rfl
 | _::_,[]=>rfl
 | a::x,b::y=>by
  have ih:=ko x y;simp only[Op.bytesLess,List.cons_beq_cons];by_cases h:a=b
  ·subst h;have h0:¬a<a:=λh=>absurd (UInt8.lt_iff_toNat_lt.1 h) (by omega)
   simp only[h0,decide_false,beq_self_eq_true,bgw,Bool.false_or];exact ih
  have hn:a.toNat≠b.toNat:=λe=>h (UInt8.toNat_inj.1 e);have e1:(a==b)=false:=by simpa using h
  have e2:(b==a)=false:=by simpa using λe=>h e.symm
  simp only[e1,e2,Bool.false_and,Bool.or_false,Bool.not_false,Bool.and_true];by_cases hl:a<b
  ·have:=UInt8.lt_iff_toNat_lt.1 hl;rw[bfr hl,bfq (λh'=>by have:=UInt8.lt_iff_toNat_lt.1 h';omega)]
   rfl
  have:b<a:=UInt8.lt_iff_toNat_lt.2 (by have h':¬a.toNat<b.toNat:=λh'=>hl (UInt8.lt_iff_toNat_lt.2 h');omega)
  rw[bfq hl,bfr this];rfl
theorem Ml(a:List (BitVec 8)):qW a a=0:=by
 have h:=ko (strOf a).toList (strOf a).toList;rw[beq_self_eq_true,Bool.not_true,Bool.and_false]at h;unfold qW wQ;rw[<-h];rfl
theorem cu {x:bg}(h:x.bB=true):kr x.key=true/\1<=x.key.length/\x.key.length<=16/\0<=x.lo/\x.lo<=1099511627776/\x.lo<x.hi/\x.hi<=4398046511104:=by
 simp only[bg.bB,bf8,bf0]at h;obtain⟨h1,h2⟩:=h;have h3:=h1;simp only[kr,bf8,bf0]at h3;exact⟨h1,h3.2.1,h3.2.2,h2⟩
def dM(q:bz):Int:=if q.kind=2 then q.slide else q.size
def nQ(q:bz)(key:List (BitVec 8))(k:Int):bg:=⟨key,k*dM q,k*dM q+q.size⟩
def xH(q:bz)(t:Int):Int:=if t<q.size then 0 else (t-q.size) / dM q+1
def vQ(q:bz)(key:List (BitVec 8))(k:Int)(n:Nat):List bg:=(List.range n).map λ(i:Nat)=>nQ q key (k+(i:Int))
def jS(q:bz)(key:List (BitVec 8))(t:Int):Bool:=q.bB && kr key && decide (0<=t/\t<=1099511627776)
def lM(q:bz)(key:List (BitVec 8))(t:Int):List bg:=
 if jS q key t=true then (if q.kind=3 then [⟨key,t,t+q.size⟩]else vQ q key (xH q t) (t / dM q+1-xH q t).toNat)else []
theorem jT(q:bz)(key:List (BitVec 8))(k:Int)(n:Nat):(vQ q key k n).length=n:=by simp[vQ]
theorem FJ(q:bz)(key:List (BitVec 8))(k:Int)(n i:Nat)(h:i<n):(vQ q key k n)[i]? =some (nQ q key (k+(i:Int))):=by
 simp[vQ,h]
theorem ME(q:bz)(key:List (BitVec 8))(k:Int)(n:Nat):vQ q key k (n+1)=nQ q key k::vQ q key (k+1) n:=by
 apply List.ext_getElem?;intro i
 cases i with
 | zero=>rw[FJ _ _ _ _ _ (by omega)];simp
 | succ i=>
  rw[List.getElem?_cons_succ];by_cases h:i<n
  ·rw[FJ _ _ _ _ _ (by omega),FJ _ _ _ _ _ h]
   congr 2
   omega
  rw[bgk (by rw[jT];omega),bgk (by rw[jT];omega)]
theorem jk {q:bz}(h:q.bB=true):1<=dM q/\dM q<=q.size/\q.size<=16*dM q/\1<=q.size/\q.size<=1073741824:=by
 obtain⟨h1,_,h2,h4,h5,_⟩:=gU h;unfold dM;by_cases k2:q.kind=2
 ·have:=h4 k2;rw[if_pos k2];omega
 rw[if_neg k2];omega
theorem qw {q:bz}(h:q.bB=true) {t:Int}(k:Int)(hk:0<=k):t<k*dM q+q.size↔xH q t<=k:=by
 obtain⟨s1,s2,s3,s4,s5⟩:=jk h;have hm:0<=k*dM q:=Int.mul_nonneg hk (by omega)
 unfold xH;by_cases hlt:t<q.size
 ·rw[if_pos hlt];omega
 rw[if_neg hlt];have e:(t-q.size) / dM q<k↔t-q.size<k*dM q:=Int.ediv_lt_iff_lt_mul (by omega)
 omega
theorem p9 {q:bz}(h:q.bB=true) {t:Int}(ht:0<=t):0<=xH q t/\xH q t<=t / dM q/\t / dM q+1-xH q t<=16:=by
 obtain⟨s1,s2,s3,s4,s5⟩:=jk h;have hK0:0<=t / dM q:=Int.ediv_nonneg ht (by omega)
 have hK1:t / dM q*dM q<=t:=Int.ediv_mul_le _ (by omega)
 have hK2:t<t / dM q*dM q+dM q:=by
  have:=Int.lt_ediv_add_one_mul_self t (show 0<dM q by omega)
  rw[Int.add_mul,Int.one_mul]at this;exact this
 have hl0:0<=xH q t:=by
  unfold xH;by_cases hlt:t<q.size
  ·rw[if_pos hlt];omega
  rw[if_neg hlt];have:=Int.ediv_nonneg (show 0<=t-q.size by omega) (show 0<=dM q by omega)
  omega
 refine⟨hl0,(qw h _ hK0).1 (by omega),?_⟩
 by_cases h16:t / dM q-16<0
 ·omega
 have hs:=not_congr (qw h (t:=t) (t / dM q-16) (by omega))
 have e:(t / dM q-16)*dM q=t / dM q*dM q-16*dM q:=by rw[Int.sub_mul]
 rw[e]at hs;have:=hs.1 (by omega)
 omega
theorem wS(q:bz)(key:List (BitVec 8))(t:Int):(lM q key t).length<=16:=by
 unfold lM
 split
 ·rename_i h;simp only[jS,bf8,bf0]at h
  split
  ·simp
  rw[jT];have:=p9 h.1.1 h.2.1;omega
 simp
end Go.Proofs.YtjeeghafachebaaGreat
namespace Go.Proofs.YtjeeghafachebaaGreat
open Go Go.ChangeShapes Go.WideShapes Go.ChangeAt Go.WideMaps Go.WideElems Go.RowKit Go.Proofs.Tryz
theorem bq(w:World)(o:Obj):(w.alloc o).heap.size=w.heap.size+1:=by
 show(w.heap.push o).size=_;exact Array.size_push ..
theorem dh:(prog.info? 47).map (·.size)=some 3:=by kernel_rfl
theorem dH(x:bg):x.cells.all (·.oneCell')=true:=by
 rw[Array.all_eq_true'];intro v hv;simp only[bg.cells,List.mem_toArray,bf2,bf9,or_false]at hv;rcases hv with rfl | rfl | rfl <;> rfl
def bZ(w:World)(b:Nat)(x:bg):Prop:=w.heap[b]? =some (.cells x.cells 47 (0,0))
theorem bZ.lt {w:World} {b:Nat} {x:bg}(h:bZ w b x):b<w.heap.size:=(Array.getElem?_eq_some_iff.1 h).1
theorem bZ.below {w w':World} {b:Nat} {x:bg}(h:bZ w b x)(hB:Bw w w'):bZ w' b x:=(hB.block b h.lt).trans h
theorem bZ.cell {w:World} {b:Nat} {x:bg}(h:bZ w b x)(i:Nat) {v:Value}(hi:x.cells[i]? =some v):w.cell? ⟨b,i,none⟩=some v:=by
 rw[cell_of_row _ _ _ _ _ _ h];exact hi
def D3(w:World)(b:Nat)(key:List (BitVec 8))(lo hi:Int):Prop:=w.cell? ⟨b,0,none⟩=some (Sv key)/\w.cell? ⟨b,1,none⟩=some (.int .i64 lo)/\w.cell? ⟨b,2,none⟩=some (.int .i64 hi)
theorem bZ.d3 {w:World} {b:Nat} {x:bg}(h:bZ w b x):D3 w b x.key x.lo x.hi:=⟨h.cell 0 rfl,h.cell 1 rfl,h.cell 2 rfl⟩
theorem dW(w:World)(x:bg):bZ ((w.alloc (Obj.cells bX.cells 47)).setRow w.heap.size x.cells) w.heap.size x/\Bw w ((w.alloc (Obj.cells bX.cells 47)).setRow w.heap.size x.cells):=
 ⟨setRow_heap _ _ _ _ _ _ (bg5 w _),((Below.refl _ w).alloc (bfx _) _).trans ⟨rfl,rfl,rfl,by simp[World.setRow],λk hk=>setRow_other _ _ _ _ (by omega)⟩⟩
def lq(x y:bg):Bool:=decide (x.key=y.key) && (x.lo==y.lo && x.hi==y.hi)
theorem ku(x y:bg):lq x y=true↔x=y:=by
 obtain⟨a,b,c⟩:=x;obtain⟨a',b',c'⟩:=y;simp[lq]
theorem RZ {α β:Type}(g:α->β):∀(l:List α) (a b c:β),l.map g=[a,b,c]->∃x0 x1 x2,l=[x0,x1,x2]/\g x0=a/\g x1=b/\g x2=c
 | [],_,_,_,h=>by simp at h
 | [_],_,_,_,h=>by simp at h
 | [_,_],_,_,_,h=>by simp at h
 | [x0,x1,x2],_,_,_,h=>by
  simp only[bgc,bge,List.cons.injEq,and_true]at h;exact⟨x0,x1,x2,rfl,h⟩
 | _::_::_::_::_,_,_,_,h=>by simp at h
theorem qC(w:World)(x y:bg):(Op.equalIn 10000 47 (.agg x.cells) (.agg y.cells)).run prog w=.ok (lq x y) w:=by
 rw[run_equalIn_agg w 9999 47 _ _ (by kernel_rfl) (by kernel_rfl)]
 have hm : (prog.fieldsOf 47).toList.map (fun f => (f.name, f.type, f.offset)) = [("Key", 9, 0), ("From", 3, 1), ("To", 3, 2)] := by kernel_rfl
 generalize (prog.fieldsOf 47).toList=l at hm
 obtain⟨f0,f1,f2,rfl,hq⟩:=RZ _ _ _ _ _ hm;obtain⟨h0,h1,h2⟩:=hq
 obtain ⟨n0, t0, o0⟩ : f0.name = "Key" ∧ f0.type = 9 ∧ f0.offset = 0 := by simpa using h0
 obtain ⟨n1, t1, o1⟩ : f1.name = "From" ∧ f1.type = 3 ∧ f1.offset = 1 := by simpa using h1
 obtain ⟨n2, t2, o2⟩ : f2.name = "To" ∧ f2.type = 3 ∧ f2.offset = 2 := by simpa using h2
 have p0:∀z:bg,(part 9 z.cells 0).run prog w=.ok (Sv z.key) w:=λz=>by simp[part,go_sem,bg.cells]
 have p1:∀z:bg,(part 3 z.cells 1).run prog w=.ok (.int .i64 z.lo) w:=λz=>by simp[part,go_sem,bg.cells]
 have p2:∀z:bg,(part 3 z.cells 2).run prog w=.ok (.int .i64 z.hi) w:=λz=>by simp[part,go_sem,bg.cells]
 have e1:∀(d:Nat) (a b:Int),(Op.equalIn (d+1) 3 (.int .i64 a) (.int .i64 b)).run prog w=.ok (a==b) w:=λd a b=>run_equalIn_int w d 3 .i64 .i64 a b underlying3;have e2:∀(d:Nat) (a b:List (BitVec 8)),(Op.equalIn (d+1) 9 (Sv a) (Sv b)).run prog w=.ok (decide (a=b)) w:=λd a b=>by
  rw[Sv,Sv,run_equalIn_string w d 9 _ _ underlying9,str_eq]
 obtain⟨a,b,c⟩:=x;obtain⟨a',b',c'⟩:=y;rw[nz (Sv a) (Sv a') (decide (a=a')) (by rw[n0];decide) (by rw[t0,o0];exact p0 ⟨a,b,c⟩) (by rw[t0,o0];exact p0 ⟨a',b',c'⟩) (by rw[t0];exact e2 9998 a a'),
  nz (.int .i64 b) (.int .i64 b') (b==b') (by rw[n1];decide) (by rw[t1,o1];exact p1 ⟨a,b,c⟩) (by rw[t1,o1];exact p1 ⟨a',b',c'⟩) (by rw[t1];exact e1 9998 b b'),
  nz (.int .i64 c) (.int .i64 c') (c==c') (by rw[n2];decide) (by rw[t2,o2];exact p2 ⟨a,b,c⟩) (by rw[t2,o2];exact p2 ⟨a',b',c'⟩) (by rw[t2];exact e1 9998 c c')]
 simp only[lq];cases decide (a=a') <;> cases b==b' <;> cases c==c' <;> rfl
theorem jo(w:World)(x y:bg):(binOp .eql 47 (.agg x.cells) (.agg y.cells)).run prog w=.ok (.bool (lq x y)) w:=by
 rw[run_eql_struct,qC];rfl
theorem sF(w:World)(x y:bg):(binOp .neq 47 (.agg x.cells) (.agg y.cells)).run prog w=.ok (.bool (!lq x y)) w:=by
 rw[run_neq_struct,qC];rfl
theorem fT(w:World)(op:BinOp)(o1 o2:Operand)(x y:bg):(eqGuard op 47 o1 o2 (.agg x.cells) (.agg y.cells)).run prog w=.ok () w:=run_eqGuard_agg w op _ o1 o2 _ _ (by kernel_rfl)
def dF(w:World)(a:Option Addr)(l:List bg):Prop:=
 l=[]∨∃b o,a=some ⟨b,o,none⟩/\∀i x,l[i]? =some x->∀j v,x.cells[j]? =some v->w.cell? ⟨b,o+i*3+j,none⟩=some v
theorem dF.below {w w':World} {a:Option Addr} {l:List bg}(h:dF w a l)(hB:Bw w w'):dF w' a l:=by
 rcases h with h | ⟨b,o,h,h'⟩
 ·exact .inl h
 exact .inr ⟨b,o,h,λi x hx j v hv=>(hB.cell (block_lt_of_cell (h' i x hx j v hv))).trans (h' i x hx j v hv)⟩
def qI(w:World)(l:List bg)(e:Ending)(w':World):Prop:=∃a c,e=.returned (.slice a l.length c)/\l.length<=c/\dF w' a l/\Bw w w'
theorem CR {x:bg} {j:Nat} {v:Value}(h:x.cells[j]? =some v):j<3:=by
 have:=(Array.getElem?_eq_some_iff.1 h).1;simpa[bg.cells]using this
def cZ(l:List bg):List Value:=l.flatMap λx=>x.cells.toList
def cK(w:World)(base:Nat)(v:Value)(l:List bg):Prop:=w.ownsRow base 47 3 v l.length (cZ l)
theorem fJ(l:List bg):(cZ l).length=l.length*3:=by
 induction l with
 | nil=>rfl
 | cons x l ih=>
  have:(cZ (x::l)).length=3+(cZ l).length:=by
   show(x.cells.toList++cZ l).length=_;rw[bft];rfl
  rw[this,ih,bgy];omega
theorem vE(l:List bg):∀(i:Nat) (x:bg) (j:Nat) (v:Value),l[i]? =some x->x.cells[j]? =some v->(cZ l)[i*3+j]? =some v:=by
 induction l with
 | nil=>intro i x j v h;simp at h
 | cons y l ih=>
  intro i x j v h hv;have hj:j<3:=CR hv;have hy:(cZ (y::l))=y.cells.toList++cZ l:=rfl;have hys:y.cells.toList.length=3:=rfl
  cases i with
  | zero=>
   simp only[bgp,bf5]at h;subst h;rw[hy,Nat.zero_mul,bgu,List.getElem?_append_left (by omega)]
   simpa using hv
  | succ i=>
   rw[hy,List.getElem?_append_right (by omega),hys,show(i+1)*3+j-3=i*3+j by omega]
   exact ih i x j v (by simpa using h) hv
theorem cK.nil(w:World)(base:Nat):cK w base (.slice none 0 0) []:=World.ownsRow_nil w base _ 3
theorem cK.form {w:World} {base:Nat} {v:Value} {l:List bg}(h:cK w base v l):∃a c,v=.slice a l.length c/\l.length<=c/\dF w a l:=by
 have hh:=h;rcases h.2 with⟨h1,h2⟩ | ⟨g,cap,cur,h1,_,_,hle,_⟩
 ·exact⟨none,0,by rw[h1,h2],by omega,.inl (bg3 h2)⟩
 refine⟨_,_,h1,hle,.inr ⟨g,0,rfl,λi x hx j u hu=>?_⟩⟩;unfold cK at hh;rw[h1]at hh;have hi:i<l.length:=(List.getElem?_eq_some_iff.1 hx).1;have hj:j<3:=CR hu;rw[show 0+i*3+j=i*3+j by omega,World.ownsRow.cellAt hh _ (by omega)]
 exact vE l i x j u hx hu
theorem cK.kept {w w':World} {base:Nat} {v:Value} {l:List bg}(h:cK w base v l) {row:Option Nat}(hg:w.grownBy w' row)(hne:v.ownBlock=none∨v.ownBlock≠row):cK w' base v l:=World.ownsRow.kept h hg hne
theorem cK.far {w w':World} {base:Nat} {v:Value} {l:List bg}(h:cK w base v l)(hB:Bw w w'):cK w' base v l:=
 h.kept (kQ hB) (by cases hv:v.ownBlock <;> simp)
theorem cK.lt {w:World} {base:Nat} {v:Value} {l:List bg}(h:cK w base v l) {k:Nat}(hk:v.ownBlock=some k):base<=k/\k<w.heap.size:=World.ownsRow.lt h k hk
theorem wE(l:List bg)(x:bg):cZ (l++[x])=cZ l++x.cells.toList:=by simp[cZ]
theorem jZ {ops:Array Oper} {rest:List Oper} {o:Oper} {a:Act} {Q:Exit->Act->World->Prop} {w:World}(hgd:o.guard=none)(s x:Operand)
  (ho:o.op=.call { callee:=.builtin .append,args:=#[s,x],argTypes:=#[84,84] })
  (base:Nat) (v:Value) (l:List bg) (hs:a.eval s=v) (hown:cK w base v l) (u:bg) (g:Nat) (hx:a.eval x=.slice (some ⟨g,0,none⟩) 1 1) (hu:∀j z,u.cells[j]? =some z->w.cell? ⟨g,j,none⟩=some z)
  (hlen:l.length+1<=1000000) (hbase:base<=w.heap.size)
  (h:∀v' w',cK w' base v' (l++[u])->w.grownBy w' v.ownBlock->(v'.ownBlock=v.ownBlock∨v'.ownBlock=some w.heap.size)->wpList prog ops Q rest (a.put o.dst v') w'):
  wpList prog ops Q (o::rest) a w:=by
 obtain⟨i,hi,hz0,hz1,hz2⟩:=info_parts (P:=prog) (e:=47) (z:=.agg #[.string ⟨#[]⟩,.int .i64 0,.int .i64 0]) (size:=3) (bytes:=32) (by kernel_rfl)
 refine wpList_append_own_at _ hgd s x 84 ho base 47 i _ 3 32 underlying84 hi hz0 hz1 hz2 rfl (by decide) v l.length (cZ l) hs hown ⟨g,0,none⟩ 1 1 u.cells.toList hx rfl ?_ ?_ (by unfold maxLen;omega) (by omega) hbase ?_
 ·intro j z hj;rw[addr_add,bgu];exact hu j z (by simpa using hj)
 ·intro z hz;exact Array.all_eq_true'.1 (dH u) z (by simpa using hz)
 intro v' w' k1 k2 _ k4;refine h v' w' ?_ k2 k4;unfold cK;rw[wE,bft];exact k1
theorem cK.Rw(w:World)(base:Nat)(hb:base<=w.heap.size)(u:bg):cK (w.alloc (.cells u.cells 47)) base (.slice (some ⟨w.heap.size,0,none⟩) 1 1) [u]:=by
 refine⟨rfl,.inr ⟨w.heap.size,1,u.cells,rfl,hb,bg5 w _,bfx _,by decide,rfl,?_⟩⟩
 simp[cZ,bg.cells]
theorem cK.below {w w':World} {base:Nat} {v:Value} {l:List bg}(h:cK w base v l)(hg:w.grownBy w' v.ownBlock)(hb:base<=w.heap.size):Below base w w':=
 ⟨hg.os,hg.tape,hg.output,hg.size,λk hk=>hg.block k (by omega) (λhe=>by have:=h.lt he.symm;omega)⟩
theorem Jp {l:List bg} {b o:Nat} {w:World}(h:∀i x,l[i]? =some x->∀j v,x.cells[j]? =some v->w.cell? ⟨b,o+i*3+j,none⟩=some v):∀(n:Nat) (u:Value),(cZ l)[n]? =some u->w.cell? ((⟨b,o,none⟩:Addr).add n)=some u:=by
 intro n u hu;have hn:=(List.getElem?_eq_some_iff.1 hu).1;rw[fJ]at hn;have hi:n / 3<l.length:=by omega
 have hx:l[n / 3]? =some l[n / 3]:=bfs hi;have hj:n % 3<3:=by omega
 obtain⟨v,hv⟩:∃v,(l[n / 3]).cells[n % 3]? =some v:=by
  have hs:(l[n / 3]).cells.size=3:=rfl;exact⟨_,bgm (by rw[hs];exact hj)⟩
 have h1:=vE l (n / 3) _ (n % 3) v hx hv;have e:n / 3*3+n % 3=n:=by omega
 rw[e,hu]at h1;cases h1
 rw[addr_add];have h2:=h (n / 3) _ hx (n % 3) u hv
 rwa [Nat.add_assoc,e]at h2
theorem mW:((prog.info? 47).map λi=>(i.zero,i.size,i.bytes))=some (some (.agg #[.string ⟨#[]⟩,.int .i64 0,.int .i64 0]),3,32):=by kernel_rfl
theorem yB(l:List bg):∀u∈cZ l,u.oneCell'=true:=by
 intro u hu;obtain⟨x,_,hx⟩:=List.mem_flatMap.1 hu;exact Array.all_eq_true'.1 (dH x) u (by simpa using hx)
theorem yx(w:World)(base:Nat)(v:Value)(l1 l2:List bg)(hown:cK w base v l1)(a:Option Addr)(c:Nat)(h:dF w a l2)(hl:l1.length+l2.length<=1000000)(hb:base<=w.heap.size)(ty:TypeId):
  ∃v' w',(Builtin.append_ #[84,84] ty #[v,.slice a l2.length c]).run prog w=.ok v' w'/\cK w' base v' (l1++l2)/\w.grownBy w' v.ownBlock/\(v'.ownBlock=v.ownBlock∨v'.ownBlock=some w.heap.size):=by
 obtain⟨i,hi,hz,hs,hby⟩:=info_parts mW;have some_case:∀ad:Addr,(∀(j:Nat) (u:Value),(cZ l2)[j]? =some u->w.cell? (ad.add j)=some u)->
   ∃v' w',(Builtin.append_ #[84,84] ty #[v,.slice (some ad) l2.length c]).run prog w=.ok v' w'/\cK w' base v' (l1++l2)/\w.grownBy w' v.ownBlock/\(v'.ownBlock=v.ownBlock∨v'.ownBlock=some w.heap.size):=by
  intro ad hc;obtain⟨v',w',h1,h2,h3,_,h5⟩:=run_append_own_at (P:=prog) w base 84 ty 47 i _ 3 32 underlying84 hi hz hs hby rfl (by decide) v l1.length (cZ l1) hown ad l2.length c (cZ l2) (fJ l2) hc (yB l2)
   (by unfold maxLen;omega) (by omega) hb
  refine⟨v',w',h1,?_,h3,h5⟩;unfold cK;rw[bft,show cZ (l1++l2)=cZ l1++cZ l2 by simp[cZ]]
  exact h2
 cases a with
 | some ad=>
  rcases h with rfl | ⟨b,o,ha,hc⟩
  ·exact some_case ad λj u hj=>by simp[cZ]at hj
  cases ha
  exact some_case _ (Jp hc)
 | none=>
  have h0:l2=[]:=by
   rcases h with h | ⟨_,_,ha,_⟩
   ·exact h
   cases ha
  subst h0;refine⟨v,w,?_,by simpa using hown,⟨rfl,rfl,rfl,bfx _,λ_ _ _=>rfl⟩,.inl rfl⟩
  rcases hown.2 with⟨hv,hn⟩ | ⟨g,cap,cur,hv,_,hg,hle,_⟩
  ·rw[hv];simp[Builtin.append_,run_underlying underlying84,sizeOf,typeInfo,hi,Builtin.lenOf,Builtin.firstCells]
  rw[hv];simp[Builtin.append_,run_underlying underlying84,sizeOf,typeInfo,hi,Builtin.lenOf,Builtin.firstCells,storeCells,loadCells,hle]
theorem kL {ops:Array Oper} {rest:List Oper} {o:Oper} {a:Act} {Q:Exit->Act->World->Prop} {w:World}(hgd:o.guard=none)(s x:Operand)
  (ho:o.op=.call { callee:=.builtin .append,args:=#[s,x],argTypes:=#[84,84] }) (base:Nat) (v:Value) (l1 l2:List bg) (hs:a.eval s=v) (hown:cK w base v l1)
  (sa:Option Addr) (c n:Nat) (hn:n=l2.length) (hx:a.eval x=.slice sa n c) (hm:dF w sa l2) (hl:l1.length+l2.length<=1000000) (hb:base<=w.heap.size)
  (h:∀v' w',cK w' base v' (l1++l2)->w.grownBy w' v.ownBlock->(v'.ownBlock=v.ownBlock∨v'.ownBlock=some w.heap.size)->wpList prog ops Q rest (a.put o.dst v') w'):
  wpList prog ops Q (o::rest) a w:=by
 refine wpList_plain hgd λK hK=>?_;subst hn;obtain⟨v',w',hr,h2,h3,h4⟩:=yx w base v l1 l2 hown sa c hm hl hb o.type;unfold Oper.wp execOp;simp only[ho,resolve,invoke,builtin,Sem.run_bind,Sem.run_pure,Result.andThen_ok,bgb,bgc,bge,hs,hx,hr];exact hK _ _ (h v' w' h2 h3 h4)
theorem fE {ops:Array Oper} {rest:List Oper} {o:Oper} {a:Act} {w:World} {Q:Exit->Act->World->Prop}(hg:o.guard=none)(y:Operand)(ho:o.op=.buildSlice 84 1 #[(0,y)])(x:bg)(hy:a.eval y=.agg x.cells)
  (h:wpList prog ops Q rest (a.put o.dst (.slice (some ⟨w.heap.size,0,none⟩) 1 1)) (w.alloc (.cells x.cells 47))):wpList prog ops Q (o::rest) a w:=by
 have hF:Instr.fill (λi=>some (i*3,3)) ((Array.range (1*3)).map ((Value.agg #[.string ⟨#[]⟩,.int .i64 0,.int .i64 0]).cells[· % (Value.agg #[.string ⟨#[]⟩,.int .i64 0,.int .i64 0]).cells.size]!)) [(0,.agg x.cells)]=some x.cells:=by kernel_rfl
 obtain⟨i,hi,hz0,hz1,hz2⟩:=info_parts mW;refine wpList_buildSlice hg 84 47 1 _ ho x.cells i _ underlying84 hi hz0 (by rw[hz1];decide) (by rw[hz1];decide) ?_ h
 rw[hz1];simp only[bgb,bgc,bge,hy];exact hF
theorem dm {P:Program} {ops:Array Oper} {rest:List Oper} {o:Oper} {a:Act} {w:World} {Q:Exit->Act->World->Prop}(hw:Region.wanted o (yielded ops a.tmps)=true)(t:TypeId)(parts:Array (Nat × Operand))(ho:o.op=.build t parts)
  (cells:Array Value) (hf:P.built t (parts.map λ(i,x)=>(i,a.eval x)).toList=some cells) (h:wpList P ops Q rest (a.put o.dst (.agg cells)) w):wpList P ops Q (o::rest) a w:=by
 unfold wpList;rw[if_pos hw];exact .inl (wp_build t parts ho (by rw[hf];rfl) (by rw[hf];exact h))
theorem lF(k:List (BitVec 8))(a b:Int):prog.built 47 [(0,Sv k),(1,.int .i64 a),(2,.int .i64 b)]=some (bg.mk k a b).cells:=by kernel_rfl
end Go.Proofs.YtjeeghafachebaaGreat
