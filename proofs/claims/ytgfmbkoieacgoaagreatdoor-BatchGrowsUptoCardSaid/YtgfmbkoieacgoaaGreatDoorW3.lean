/- 3. -/
import Derived.Laws.Cover3
import Derived.Test.YtgfmbkoieacgoaaGreatDoorW2
set_option maxRecDepth 100000
set_option maxHeartbeats 2000000
namespace Go.Proofs.YtgfmbkoieacgoaaGreatDoor
open Go Go.RowKit Go.Proofs.Tryz
theorem B_one:∀(m:List (BitVec 8)),∀u∈m.map B,u.oneCell'=true:=λm u a=>by
 obtain⟨x,_,rfl⟩:=List.mem_map.1 a;exact B_oneCell x
theorem src_cells {w:World} {b off:Nat} {m:List (BitVec 8)}(c:∀i<m.length,w.cell? ⟨b,off+i,none⟩=some (B (gl m i))):∀(j:Nat) (v:Value),(m.map B)[j]? =some v->w.cell? ((⟨b,off,none⟩:Addr).add j)=some v:=by
 intro j v a;rw[bgf]at a
 cases hx:m[j]? with
 | none=>rw[hx]at a;cases a
 | some y=>
  rw[hx]at a;simp only[Option.map_some,bf5]at a;have d:j<m.length:=(List.getElem?_eq_some_iff.1 hx).1;rw[addr_add,c j d,<-a];simp[gl,hx]
theorem append_own(w:World)(b:Nat)(v:Value)(xs:List Value)(d:Own w b 5 v xs)(a:Option Addr)(c:Nat)(m:List (BitVec 8))(h:SrcP w a m.length m)
  (M:xs.length+m.length<=1073741824) (s:b<=w.heap.size) (ty:TypeId):
  ∃e w',(Builtin.append_ #[43,43] ty #[v,.slice a m.length c]).run prog w=.ok e w'/\Own w' b 5 e (xs++m.map B)/\w.grownBy w' v.ownBlock/\(e.ownBlock=v.ownBlock∨e.ownBlock=some w.heap.size):=by
 obtain⟨i,l,x,y,n⟩:=info_u8;have some_case:∀k:Addr,(∀(j:Nat) (u:Value),(m.map B)[j]? =some u->w.cell? (k.add j)=some u)->
   ∃e w',(Builtin.append_ #[43,43] ty #[v,.slice (some k) m.length c]).run prog w=.ok e w'/\Own w' b 5 e (xs++m.map B)/\w.grownBy w' v.ownBlock/\(e.ownBlock=v.ownBlock∨e.ownBlock=some w.heap.size):=by
  intro k o;obtain⟨e,w',z,D,E,_,F⟩:=run_append_own_at (P:=prog) w b 43 ty 5 i (.int .u8 0) 1 1 underlying43 l x y n rfl (by decide) v xs.length xs d k m.length c (m.map B) (by simp) o (B_one m)
   (by unfold maxLen;omega) (by omega) s
  exact⟨e,w',z,by simpa[Own]using D,E,F⟩
 cases a with
 | some k=>
  rcases h with h | ⟨N,off,p,o⟩
  ·exact some_case k λj u I=>by
    have:m=[]:=bg3 h;subst this;simp at I
  ·cases p
   exact some_case _ (src_cells o)
 | none=>
  have J:m=[]:=by
   rcases h with h | ⟨_,_,p,_⟩
   ·exact bg3 h
   cases p
  subst J;refine⟨v,w,?_,by simpa using d,⟨rfl,rfl,rfl,bfx _,λ_ _ _=>rfl⟩,.inl rfl⟩
  rcases d.2 with⟨q,O⟩ | ⟨g,K,L,q,_,Q,r,_⟩
  ·rw[q];simp[Builtin.append_,run_underlying underlying43,sizeOf,typeInfo,l,Builtin.lenOf,Builtin.firstCells]
  rw[q];simp[Builtin.append_,run_underlying underlying43,sizeOf,typeInfo,l,Builtin.lenOf,Builtin.firstCells,storeCells,loadCells,r]
theorem wpList_append_own2 {j:Array Oper} {d:List Oper} {o:Oper} {a:Act} {Q:Exit->Act->World->Prop} {w:World}(l:o.guard=none)(s x:Operand)
  (q:o.op=.call { callee:=.builtin .append,args:=#[s,x],argTypes:=#[43,43] }) (b:Nat) (v:Value) (xs:List Value) (r:a.eval s=v) (k:Own w b 5 v xs)
  (p:Option Addr) (c:Nat) (m:List (BitVec 8)) (n:Nat) (u:n=m.length) (y:a.eval x=.slice p n c) (z:SrcP w p m.length m) (D:xs.length+m.length<=1073741824) (E:b<=w.heap.size)
  (h:∀e w',Own w' b 5 e (xs++m.map B)->w.grownBy w' v.ownBlock->(e.ownBlock=v.ownBlock∨e.ownBlock=some w.heap.size)->wpList prog j Q d (a.put o.dst e) w'):
  wpList prog j Q (o::d) a w:=by
 refine wpList_plain l λK F=>?_;subst u;obtain⟨e,w',I,J,L,M⟩:=append_own w b v xs k p c m z D E o.type;unfold Oper.wp execOp;simp only[q,resolve,invoke,builtin,Sem.run_bind,Sem.run_pure,Result.andThen_ok,bgb,bgc,bge,r,y,I];exact F _ _ (h e w' J L M)
def PenAt(X:Nat->Prop)(w:World)(b:Nat)(l:List (BitVec 8)):Prop:=
 ∃v,w.heap[b]? =some (.cells #[v] 51 (0,0))/\Own w 0 5 v (l.map B)/\∀g,v.ownBlock=some g->¬X g
theorem PenAt.lt {X:Nat->Prop} {b:Nat} {w:World} {l:List (BitVec 8)}(h:PenAt X w b l):b<w.heap.size:=by
 obtain⟨v,a,_⟩:=h;exact(Array.getElem?_eq_some_iff.1 a).1
theorem PenAt.new(X:Nat->Prop)(w:World):PenAt X (w.alloc (.cells #[.slice none 0 0] 51)) w.heap.size []:=⟨_,bg5 w _,Own.nil _ _ _,λg h=>by cases h⟩
def PKept(X:Nat->Prop)(b:Nat)(w w':World):Prop:=
 w'.os=w.os/\w'.tape=w.tape/\w'.output=w.output/\w.heap.size<=w'.heap.size/\(∀k,X k->k≠b->k<w.heap.size->w'.heap[k]? =w.heap[k]?)/\
  ∀(k:Nat) (c:Array Value) (t:TypeId) (fr:Nat × Nat),w.heap[k]? =some (Obj.cells c t fr)->t≠5->k≠b->w'.heap[k]? =some (Obj.cells c t fr)
theorem PKept.refl(X:Nat->Prop)(b:Nat)(w:World):PKept X b w w:=⟨rfl,rfl,rfl,bfx _,λ_ _ _ _=>rfl,λ_ _ _ _ h _ _=>h⟩
theorem PKept.trans {X:Nat->Prop} {b:Nat} {w e j:World}(h:PKept X b w e)(k:PKept X b e j):PKept X b w j:=
 ⟨k.1.trans h.1,k.2.1.trans h.2.1,k.2.2.1.trans h.2.2.1,bgn h.2.2.2.1 k.2.2.2.1,λi d a l=>(k.2.2.2.2.1 i d a (Nat.lt_of_lt_of_le l h.2.2.2.1)).trans (h.2.2.2.2.1 i d a l),
  λi c t m d n a=>k.2.2.2.2.2 i c t m (h.2.2.2.2.2 i c t m d n a) n a⟩
theorem PKept.of_below {X:Nat->Prop} {b:Nat} {w w':World}(h:Bw w w'):PKept X b w w':=
 ⟨h.os,h.tape,h.output,h.size,λk _ _ a=>h.block k a,λk _ _ _ a _ _=>(h.block k (Array.getElem?_eq_some_iff.1 a).1).trans a⟩
theorem PKept.mono {X Y:Nat->Prop} {b:Nat} {w w':World}(h:PKept X b w w')(a:∀k,Y k->X k):PKept Y b w w':=⟨h.1,h.2.1,h.2.2.1,h.2.2.2.1,λk c=>h.2.2.2.2.1 k (a k c),h.2.2.2.2.2⟩
theorem PenAt.mono {X Y:Nat->Prop} {b:Nat} {w:World} {l:List (BitVec 8)}(h:PenAt X w b l)(a:∀k,Y k->X k):PenAt Y w b l:=by
 obtain⟨v,c,d,e⟩:=h;exact⟨v,c,d,λg j m=>e g j (a g m)⟩
theorem PKept.below {X:Nat->Prop} {b B:Nat} {w w':World}(h:PKept X b w w')(a:∀k<B,X k)(d:B<=b)(e:B<=w.heap.size):Below B w w':=
 ⟨h.1,h.2.1,h.2.2.1,h.2.2.2.1,λk c=>h.2.2.2.2.1 k (a k c) (by omega) (by omega)⟩
theorem PKept.set {X:Nat->Prop} {b:Nat}(w:World)(v:Value):PKept X b w (w.setCell ⟨b,0,none⟩ v):=
 ⟨rfl,rfl,rfl,by simp[World.setCell],λk _ a _=>heap_setCell_other _ _ _ _ (λe=>a (by rw[e])),λk c t h d _ a=>(heap_setCell_other _ _ _ _ (λe=>a (by rw[e]))).trans d⟩
theorem PKept.own {X:Nat->Prop} {b:Nat} {w w':World} {v:Value} {xs:List Value}(h:Own w 0 5 v xs)(m:∀g,v.ownBlock=some g->¬X g)(e:w.grownBy w' v.ownBlock):PKept X b w w':=by
 refine⟨e.os,e.tape,e.output,e.size,λk j _ n=>e.block k n (λd=>m k d.symm j),λk c t r j o _=>(e.block k (Array.getElem?_eq_some_iff.1 j).1 λd=>?_).trans j⟩;rcases h.2 with⟨l,_⟩ | ⟨g,p,q,l,_,a,_⟩
 ·rw[l]at d;cases d
 rw[l]at d;injection d with d
 subst d;rw[j]at a;injection a with a
 injection a with _ e2
 exact o e2
theorem PKept.row {X:Nat->Prop} {b:Nat} {w w':World}(h:PKept X b w w') {k:Nat} {c:Array Value} {t:TypeId} {a:Nat × Nat}(e:w.heap[k]? =some (.cells c t a))(j:t≠5)(d:k≠b):w'.heap[k]? =some (.cells c t a):=h.2.2.2.2.2 k c t a e j d
theorem PKept.size {X:Nat->Prop} {b:Nat} {w w':World}(h:PKept X b w w'):w.heap.size<=w'.heap.size:=h.2.2.2.1
theorem PenAt.below {X:Nat->Prop} {b:Nat} {w w':World} {l:List (BitVec 8)}(h:PenAt X w b l)(a:Bw w w'):PenAt X w' b l:=by
 obtain⟨v,c,d,e⟩:=h;exact⟨v,(a.block _ (Array.getElem?_eq_some_iff.1 c).1).trans c,d.far a,e⟩
theorem PenAt.more {X:Nat->Prop} {b:Nat} {w:World} {l:List (BitVec 8)}(h:PenAt X w b l)(Y:Nat->Prop)(e:∀k,Y k->X k∨w.heap.size<=k):PenAt Y w b l:=by
 obtain⟨v,j,a,m⟩:=h;refine⟨v,j,a,λg c n=>?_⟩;rcases e g n with d | d
 ·exact m g c d
 have:=(a.lt c).2;omega
theorem own_ne {d b:Nat} {w:World} {v u:Value} {xs:List Value} {t:TypeId}(h:Own w d 5 v xs)(j:w.heap[b]? =some (.cells #[u] t (0,0)))(k:t≠5):v.ownBlock≠some b:=by
 intro c;rcases h.2 with⟨e,_⟩ | ⟨g,l,m,e,_,a,_⟩
 ·rw[e]at c;cases c
 rw[e]at c;injection c with c
 have:g=b:=c;subst this;rw[j]at a;injection a with a
 injection a with _ e2
 exact k e2
theorem PenAt.grown {X:Nat->Prop} {b:Nat} {w d:World} {v a:Value} {l m:List (BitVec 8)}(p:w.heap[b]? =some (.cells #[v] 51 (0,0)))(s:Own w 0 5 v (l.map B))(u:∀g,v.ownBlock=some g->¬X g)
  (x:Own d 0 5 a (l.map B++m.map B)) (y:w.grownBy d v.ownBlock) (h:a.ownBlock=v.ownBlock∨a.ownBlock=some w.heap.size) (z:∀k,X k->k<w.heap.size):
  PenAt X (d.setCell ⟨b,0,none⟩ a) b (l++m)/\PKept X b w (d.setCell ⟨b,0,none⟩ a):=by
 have q:=(Array.getElem?_eq_some_iff.1 p).1;have r:=own_ne s p (by decide)
 have j:d.heap[b]? =some (.cells #[v] 51 (0,0)):=(y.block b q (λe=>r e.symm)).trans p;have n:a.ownBlock≠some b:=own_ne x j (by decide)
 refine⟨⟨a,?_,?_,?_⟩,(PKept.own s u y).trans (PKept.set d a)⟩
 ·exact heap_setCell_same d b 0 _ _ a j
 ·rw[bgl];exact x.kept (grown_setCell d b 0 a) (by
   cases hq:a.ownBlock with
   | none=>exact .inl rfl
   | some k=>exact .inr (by rw[<-hq];exact n))
 intro g c o;rcases h with h | h
 ·exact u g (h ▸ c) o
 rw[h]at c;injection c with c
 have:=z g o;omega
def PenEnd(X:Nat->Prop)(b:Nat)(w:World)(l:List (BitVec 8))(r:Value)(e:Ending)(w':World):Prop:=e=.returned r/\PenAt X w' b l/\PKept X b w w'
def SrcN(B0:Nat)(w:World)(a:Option Addr)(m:List (BitVec 8)):Prop:=
 m.length=0∨∃ab off,a=some ⟨ab,off,none⟩/\B0<=ab/\∀i<m.length,w.cell? ⟨ab,off+i,none⟩=some (B (gl m i))
theorem SrcN.srcP {b:Nat} {w:World} {a:Option Addr} {m:List (BitVec 8)}(h:SrcN b w a m):SrcP w a m.length m:=by
 rcases h with h | ⟨c,off,d,_,e⟩
 ·exact .inl h
 exact .inr ⟨c,off,d,e⟩
theorem SrcN.grown {c b:Nat} {w w':World} {a:Option Addr} {m:List (BitVec 8)}(h:SrcN c w a m)(d:w.grownBy w' (some b))(o:b<c):SrcN c w' a m:=by
 rcases h with h | ⟨e,off,j,k,l⟩
 ·exact .inl h
 exact .inr ⟨e,off,j,k,λi n=>d.cell (l i n) (by simp;omega)⟩
theorem SrcN.mono {b c:Nat} {w:World} {a:Option Addr} {m:List (BitVec 8)}(h:SrcN b w a m)(k:c<=b):SrcN c w a m:=by
 rcases h with h | ⟨d,off,e,l,j⟩
 ·exact .inl h
 exact .inr ⟨d,off,e,by omega,j⟩
theorem own_src {w:World} {d:Nat} {v:Value} {m:List (BitVec 8)}(h:Own w d 5 v (m.map B)):∃a c,v=.slice a m.length c/\m.length<=c/\c<=9223372036854775807/\(a=none->c=0)/\SrcN d w a m:=by
 rcases h.2 with⟨j,o⟩ | ⟨g,k,p,j,q,s,e,r,u,x⟩
 ·have l:m.length=0:=by simpa using o
  exact⟨none,0,by rw[j,l],by omega,by omega,λ_=>rfl,.inl l⟩
 have b:(m.map B).length=m.length:=by simp
 rw[b]at j e;subst j;refine⟨some ⟨g,0,none⟩,k,rfl,e,by unfold maxLen at r;omega,(λh=>by cases h),.inr ⟨g,0,rfl,q,λi n=>?_⟩⟩
 have:=Own.cellAt (xs:=m.map B) (by rw[b];exact h) i (by rw[b];exact n)
 rw[bgu,this];simp[gl,n]
def BytesEnd(w:World)(m:List (BitVec 8))(e:Ending)(w':World):Prop:=
 ∃a c,e=.returned (.slice a m.length c)/\m.length<=c/\c<=9223372036854775807/\(a=none->c=0)/\SrcN w.heap.size w' a m/\Bw w w'
theorem run_eql_nil_some(w:World)(a:Addr)(l c:Nat):(binOp .eql 43 (.slice (some a) l c) (.slice none 0 0)).run prog w=.ok (.bool false) w:=by
 simp only[binOp];simp[run_equal_slice_nil w 43 5 (some a) l c underlying43]
theorem run_eql_nil_none(w:World)(l c:Nat):(binOp .eql 43 (.slice none l c) (.slice none 0 0)).run prog w=.ok (.bool true) w:=by
 simp only[binOp];simp[run_equal_slice_nil w 43 5 none l c underlying43]
attribute [go_sem] run_eql_nil_some run_eql_nil_none
theorem bclone_nil(w:World):Calls prog 60 #[.slice none 0 0] w λe w'=>e=.returned (.slice none 0 0)/\w'=w:=by
 go_enter func60,ntmps60;go_wp2_with fail;go_ret;exact⟨rfl,rfl⟩
theorem bclone_any(w:World)(a:Option Addr)(c n:Nat)(m:List (BitVec 8))(l:n=m.length)(h:SrcP w a m.length m)(s:a=none->c=0)(u:m.length<=1073741824):
  Calls prog 60 #[.slice a n c] w (BytesEnd w m):=by
 cases a with
 | none=>
  have E:m=[]:=by
   rcases h with h | ⟨_,_,h,_⟩
   ·exact bg3 h
   cases h
  subst E;have:=s rfl;subst this;subst l;refine(bclone_nil w).mono λe L ⟨F,I⟩=>?_;subst I;exact⟨none,0,F,bfx _,by omega,λ_=>rfl,.inl rfl,Br⟩
 | some ad=>
  have o:=Lh (bfy l (bfy h u));clear l h u s;go_enter func60,ntmps60;go_upto_region 3 with fail;refine bg4 ?_
  iterate 6 go_step
  refine wpList_append_own2 rfl (.tmp 5) (.tmp 6) rfl w.heap.size (.slice (some ⟨w.heap.size,0,none⟩) 0 0) [] rfl (Own.lit w #[] 5 (bfx _) (by simp)) (some ad) c m n o.out.1 rfl
   (o.out.2.1.below ((Below.refl _ w).alloc (bfx _) _)) (by have:=o.out.2.2;simpa using this) (by simp) ?_
  intro M p q b J;rw[List.nil_append]at q;obtain⟨r,j,rfl,x,y,d,z⟩:=own_src q;have D:Bw w p:=by
   refine((Below.refl _ w).alloc (bfx _) _).trans ⟨b.os,b.tape,b.output,b.size,λk N=>b.block k (by simp;omega) ?_⟩
   show some k≠some w.heap.size;simp;omega
  have K:Hid (m.length<=j/\j<=9223372036854775807/\(r=none->j=0)/\SrcN w.heap.size p r m/\Bw w p):=⟨x,y,d,z,D⟩;clear q b J x y d z D;dsimp only;go_wp2_with fail;go_ret;exact⟨r,j,rfl,K.out⟩
theorem run_conv_u64_B8(w:World)(x:Nat):(convert 145 5 (.int .u64 (x:Int))).run prog w=.ok (B (BitVec.ofNat 8 x)) w:=by
 simp[convert,Conv.intToInt,run_underlying underlying145,run_underlying underlying5,B,IntKind.wrap,IntKind.bits,IntKind.signed]
theorem or128:∀y:Fin 256,(BitVec.ofNat 8 y.val ||| 128#8)=BitVec.ofNat 8 (128+y.val % 128):=by decide+kernel
theorem ofNat_or(x:Nat):(BitVec.ofNat 8 x ||| 128#8)=BitVec.ofNat 8 (128+x % 128):=by
 have h:=or128 ⟨x % 256,by omega⟩
 have a:BitVec.ofNat 8 (x % 256)=BitVec.ofNat 8 x:=by
  apply BitVec.eq_of_toNat_eq;simp
 have b:x % 256 % 128=x % 128:=by omega
 simp only at h;rw[a,b]at h;exact h
def PWordRel(X:Nat->Prop)(b:Nat)(w0:World)(l:List (BitVec 8))(W0:Nat)(v:Value)(wr:World):Prop:=
 ∃(n x:Nat) (p:List (BitVec 8)),n+1<=10/\x<128 ^ (n+1)/\x<18446744073709551616/\v=.int .u64 (x:Int)/\p++wordF (n+1) x=wordL W0/\p.length+n<=10/\PenAt X wr b (l++p)/\PKept X b w0 wr
theorem pword_any(w:World)(X:Nat->Prop)(b:Nat)(l:List (BitVec 8))(R:Nat)(hW:R<18446744073709551616)(hP:PenAt X w b l)(hX:∀k,X k->k<w.heap.size)(hl:l.length<=1073741000):
    Calls prog 118 #[.pointer (some ⟨b,0,none⟩),.int .u64 (R:Int)] w (PenEnd X b w (l++wordL R) (.tuple #[])):=by
  have HP:=Lh hP;have HB:=Lh (bfy hX hl);clear hP hX hl;go_enter func118,ntmps118;go_wp2_with fail;go_loopw[1] (PWordRel X b w l R) (λv _=>(intOf v).toNat)
  case atStart=>exact⟨9,R,[],by omega,by have:(128:Nat) ^ (9+1)=1180591620717411303424:=(by decide);omega,hW,rfl,rfl,by simp,by rw[bg2];exact HP.out,PKept.refl _ _ _⟩
  case round=>
    obtain⟨n,x,p,Y,hx,u,rfl,hp,h,⟨v,o,q,Z⟩,F⟩:=hrel;have d0:wr.cell? ⟨b,0,none⟩=some v:=by rw[cell_of_row _ _ _ _ _ _ o];rfl
    have aa:=λw=>run_conv_u64_B8 w x;have c:=(Array.getElem?_eq_some_iff.1 o).1;have d:(∀k,X k->k<wr.heap.size)/\∀g,v.ownBlock=some g->¬X g:=⟨λk hk=>Nat.lt_of_lt_of_le (HB.out.1 k hk) F.size,Z⟩;clear Z;obtain⟨sa,sc,O⟩:=q.form;by_cases Q:x<128
    · have h1:¬(128:Int)<=(x:Int):=by omega
      obtain⟨y,S⟩:=Nm (BitVec.ofNat 8 x);rw[<-S]at aa;have a:p++[y]=wordL R:=by rw[<-hp,wordF,if_pos Q,S]
      have HF:=Lh (bfy a (bfy F (bfy o (bfy q (bfy c (bfy d (bfy h O)))))));clear a F hp hx u Y h S Q o q c d O;go_upto_region 3 with fail;refine bg4 ?_
      iterate 21 go_step
      refine run_slice1_B rfl (.tmp 26) rfl y rfl ?_;obtain⟨a,F,o,q,c,d,h,O⟩:=HF.out;refine wpList_append_own2 rfl (.tmp 24) (.tmp 27) rfl 0 v ((l++p).map B) rfl (q.far (Br.alloc (bfx _) _)) (some ⟨wr.heap.size,0,none⟩) 1 [y] 1 rfl rfl (.inr ⟨wr.heap.size,0,rfl,λj hj=>by
        obtain rfl:j=0:=by simpa using hj
        exact World.cell?_alloc_mark _ _ _ _ _⟩) (by simp only[bfz,bft,bg0];have:=HB.out.2;omega) (bgi _) ?_
      intro v' D r U I;obtain⟨hG,J⟩:=PenAt.grown (m:=[y]) (((Below.refl _ wr).alloc (bfx _) _:Bw wr (wr.alloc (.cells #[B y] 5))).block b c |>.trans o) (q.far (Br.alloc (bfx _) _)) d.2 r U I (λk hk=>by have:=d.1 k hk;simp;omega)
      have s:D.heap[b]? =some (.cells #[v] 51 (0,0)):=(U.block b (by simp;omega) (λe=>own_ne q o (by decide) e.symm)).trans ((((Below.refl _ wr).alloc (bfx _) _:Bw wr (wr.alloc (.cells #[B y] 5))).block b c).trans o)
      have d1:D.cell? ⟨b,0,none⟩=some v:=by rw[cell_of_row _ _ _ _ _ _ s];rfl
      have f1:D.frozen? ⟨b,0,none⟩=false:=frozen_of_row D b 0 _ _ s;obtain⟨ra,rc,K⟩:=r.form;obtain⟨rn,L⟩:=Nm ((((l++p).map B)++[y].map B).length);rw[<-L]at K;subst K;have HG:Hid (PenAt X (D.setCell ⟨b,0,none⟩ (.slice ra rn rc)) b (l++wordL R)/\PKept X b w (D.setCell ⟨b,0,none⟩ (.slice ra rn rc))):=by
        refine⟨?_,(F.trans (PKept.of_below ((Below.refl _ wr).alloc (bfx _) _))).trans J⟩;rw[<-a,<-bgz];exact hG
      clear L hG J r U I s a F o q c d h O d0;dsimp only;go_wp2_with fail;go_end0;exact⟨rfl,HG.out.1,HG.out.2⟩
    · have h1:(128:Int)<=(x:Int):=by omega
      obtain⟨z,hz⟩:=Nm (BitVec.ofNat 8 x);rw[<-hz]at aa;have ab:∀w,(binOp .or 5 (B z) (.int .u8 128)).run prog w=.ok (B (z ||| 128#8)) w:=λw=>run_or_B _ _ z 128#8 w
      obtain⟨y,S⟩:=Nm (z ||| 128#8)
      rw[<-S]at ab;obtain⟨m,hm⟩:=Nm (x / 128);have HM:=Lh hm;have ac:∃M,n=M+1:=by
        cases n with
        | zero=>simp at hx;omega
        | succ M=>exact⟨M,rfl⟩
      obtain⟨M,rfl⟩:=ac;have a:(p++[y])++wordF (M+1) m=wordL R:=by rw[<-hp,show wordF (M+1+1) x=BitVec.ofNat 8 (128+x % 128)::wordF (M+1) (x / 128)from if_neg Q,S,hz,hm,ofNat_or];simp
      have E:m<128 ^ (M+1):=by
        have:(128:Nat) ^ (M+1+1)=128 ^ (M+1)*128:=Nat.pow_succ _ _;omega
      have N:m<x:=by omega
      have HF:=Lh (bfy a (bfy F (bfy o (bfy q (bfy c (bfy d (bfy h (bfy O (bfy E (bfy Y (bfy N u)))))))))));clear a F hp hx u Y h S hz hm E N Q o q c d O;go_upto_region 1 with fail;refine bg4 ?_
      iterate 24 go_step
      refine run_slice1_B rfl (.tmp 13) rfl y rfl ?_;obtain⟨a,F,o,q,c,d,h,O,E,Y,N,u⟩:=HF.out;refine wpList_append_own2 rfl (.tmp 10) (.tmp 14) rfl 0 v ((l++p).map B) rfl (q.far (Br.alloc (bfx _) _)) (some ⟨wr.heap.size,0,none⟩) 1 [y] 1 rfl rfl (.inr ⟨wr.heap.size,0,rfl,λj hj=>by
        obtain rfl:j=0:=by simpa using hj
        exact World.cell?_alloc_mark _ _ _ _ _⟩) (by simp only[bfz,bft,bg0];have:=HB.out.2;omega) (bgi _) ?_
      intro v' D r U I;obtain⟨hG,J⟩:=PenAt.grown (m:=[y]) (((Below.refl _ wr).alloc (bfx _) _:Bw wr (wr.alloc (.cells #[B y] 5))).block b c |>.trans o) (q.far (Br.alloc (bfx _) _)) d.2 r U I (λk hk=>by have:=d.1 k hk;simp;omega)
      have s:D.heap[b]? =some (.cells #[v] 51 (0,0)):=(U.block b (by simp;omega) (λe=>own_ne q o (by decide) e.symm)).trans ((((Below.refl _ wr).alloc (bfx _) _:Bw wr (wr.alloc (.cells #[B y] 5))).block b c).trans o)
      have d1:D.cell? ⟨b,0,none⟩=some v:=by rw[cell_of_row _ _ _ _ _ _ s];rfl
      have f1:D.frozen? ⟨b,0,none⟩=false:=frozen_of_row D b 0 _ _ s;obtain⟨ra,rc,K⟩:=r.form;obtain⟨rn,L⟩:=Nm ((((l++p).map B)++[y].map B).length);rw[<-L]at K;subst K;have HG:Hid (PenAt X (D.setCell ⟨b,0,none⟩ (.slice ra rn rc)) b (l++(p++[y]))/\PKept X b w (D.setCell ⟨b,0,none⟩ (.slice ra rn rc))):=by
        refine⟨?_,(F.trans (PKept.of_below ((Below.refl _ wr).alloc (bfx _) _))).trans J⟩;rw[<-bgz];exact hG
      clear L hG J r U I s a F o q c d h O E Y N u d0;dsimp only;go_wp2_with fail;obtain⟨a,F,o,q,c,d,h,O,E,Y,N,u⟩:=HF.out;exact⟨⟨M,m,p++[y],by omega,E,by omega,by rw[HM.out];rfl,a,by simp only[bft,bg0];omega,HG.out.1,HG.out.2⟩,by simp[intOf];omega⟩
theorem pnumber_any(w:World)(X:Nat->Prop)(b n:Nat)(l:List (BitVec 8))(h:n<9223372036854775808)(c:PenAt X w b l)(d:∀k,X k->k<w.heap.size)(j:l.length<=1073741000):
  Calls prog 65 #[.pointer (some ⟨b,0,none⟩),.int .i64 (n:Int)] w (PenEnd X b w (l++wordL n) (.bool true)):=by
 have o:=λw=>run_conv_i64_u64n w n h;have p:=Lh (pword_any w X b l n (by omega) c d j)
 have a:¬(n:Int)<0:=by omega
 clear h c d j;go_enter func65,ntmps65;go_wp2_with fail;refine p.out.mono ?_;rintro e r ⟨rfl,a,m⟩;have q:=Lh (bfy a m);clear a m;dsimp only;go_wp2_with fail;go_ret;exact⟨rfl,q.out⟩
theorem run_conv_i64_u64z(w:World)(n:Int)(a: -9223372036854775808<=n)(b:n<9223372036854775808):(convert 3 145 (.int .i64 n)).run prog w=.ok (.int .u64 (if 0<=n then n else n+18446744073709551616)) w:=by
 simp[convert,Conv.intToInt,run_underlying underlying3,run_underlying underlying145,IntKind.wrap,IntKind.bits,IntKind.signed]
 split <;> omega
theorem wrap_u64(x:Int):IntKind.u64.wrap x=x % 18446744073709551616:=by
 simp[IntKind.wrap,IntKind.bits,IntKind.signed]
theorem not64(x:Nat)(h:x<18446744073709551616):(BitVec.ofInt 64 18446744073709551615 ^^^ BitVec.ofInt 64 (x:Int)).toNat=18446744073709551615-x:=by
 have e:BitVec.ofInt 64 (x:Int)=BitVec.ofNat 64 x:=by
  apply BitVec.eq_of_toNat_eq;simp
 have a:BitVec.ofInt 64 18446744073709551615=BitVec.allOnes 64:=by decide+kernel
 rw[e,a,BitVec.allOnes_xor,BitVec.toNat_not];simp;omega
theorem bits_not64(x:Nat)(h:x<18446744073709551616):bits .xor .u64 IntKind.u64.max (x:Int)=((18446744073709551615-x:Nat):Int):=by
 show IntKind.u64.wrap ((BitVec.ofInt 64 18446744073709551615 ^^^ BitVec.ofInt 64 (x:Int)).toNat:Int)=_;rw[not64 x h,wrapU64 _ (by omega)]
theorem psigned_any(w:World)(X:Nat->Prop)(b:Nat)(n:Int)(l:List (BitVec 8))(h: -9223372036854775808<=n)(j:n<9223372036854775808)(I:PenAt X w b l)(J:∀k,X k->k<w.heap.size)(K:l.length<=1073741000):
  Calls prog 68 #[.pointer (some ⟨b,0,none⟩),.int .i64 n] w (PenEnd X b w (l++signedL n) (.tuple #[])):=by
 have r:=Lh (pword_any w X b l (zig n) (zig_lt n h j) I J K);have s:Hid (signedL n=wordL (zig n)):=Lh rfl;obtain⟨z,m⟩:=Nm (zig n);have a:=zig_lt n h j;rw[<-m]at r s a;have c:=λw=>run_conv_i64_u64z w n h j;clear I J K;by_cases d:0<=n
 ·have u:(z:Int)=2*n:=by rw[m,zig,if_pos d];omega
  have x:IntKind.u64.wrap (n*2)=(z:Int):=by rw[wrap_u64];omega
  simp only[if_pos d]at c;have D:¬n<0:=by omega
  clear m u h j d a;go_enter func68,ntmps68;go_wp2_with fail;refine r.out.mono ?_;rintro e M ⟨rfl,o,p⟩;have E:=Lh (bfy o p);clear o p;dsimp only;go_wp2_with fail;go_end0;exact⟨rfl,by rw[s.out];exact E.out⟩
 obtain⟨y,L⟩:∃y:Nat,(y:Int)=n+18446744073709551616:=⟨(n+18446744073709551616).toNat,by omega⟩
 obtain⟨q,N⟩:=Nm (18446744073709551615 - z);have u:z=(-(n+1)).toNat*2+1:=by rw[m,zig,if_neg d];omega
 simp only[if_neg d]at c;rw[<-L]at c;have x:IntKind.u64.wrap ((y:Int)*2)=(q:Int):=by rw[wrap_u64];omega
 have F:=bits_not64 q (by omega)
 rw[show 18446744073709551615-q=z by omega]at F
 have D:n<0:=by omega
 clear m u h j d a N L;go_enter func68,ntmps68;go_wp2_with fail;refine r.out.mono ?_;rintro e M ⟨rfl,o,p⟩;have E:=Lh (bfy o p);clear o p;dsimp only;go_wp2_with fail;go_end0;exact⟨rfl,by rw[s.out];exact E.out⟩
theorem pfixed_any(w:World)(X:Nat->Prop)(b n c:Nat)(a:Option Addr)(l m:List (BitVec 8))(q:n=m.length)(r:SrcP w a m.length m)(L:PenAt X w b l)(s:∀k,X k->k<w.heap.size)(u:l.length+m.length<=1073741824):
  Calls prog 173 #[.pointer (some ⟨b,0,none⟩),.slice a n c] w (PenEnd X b w (l++m) (.tuple #[])):=by
 obtain⟨v,h,j,d⟩:=L;have M:w.cell? ⟨b,0,none⟩=some v:=by rw[cell_of_row _ _ _ _ _ _ h];rfl
 have N:=Lh (bfy q (bfy r (bfy h (bfy j (bfy (bfy s d) u)))));clear q r h j s d u;go_enter func173,ntmps173;go_upto_region 1 with fail;refine bg4 ?_
 iterate 18 go_step
 obtain⟨q,r,h,j,⟨s,d⟩,u⟩:=N.out;have x:=(Array.getElem?_eq_some_iff.1 h).1;refine wpList_append_own2 rfl (.tmp 10) (.tmp 11) rfl 0 v (l.map B) rfl j a c m n q rfl r (by simpa using u) (bgi _) ?_
 intro O F o I y;obtain⟨J,z⟩:=PenAt.grown h j d o I y s;have p:F.heap[b]? =some (.cells #[v] 51 (0,0)):=(I.block b x (λe=>own_ne j h (by decide) e.symm)).trans h
 have Q:F.cell? ⟨b,0,none⟩=some v:=by rw[cell_of_row _ _ _ _ _ _ p];rfl
 have R:F.frozen? ⟨b,0,none⟩=false:=frozen_of_row F b 0 _ _ p;obtain⟨S,U,D⟩:=o.form;obtain⟨Y,E⟩:=Nm (((l.map B)++m.map B).length);rw[<-E]at D;subst D;have K:=Lh (bfy J z);clear E J z o I y p q r h j s d u M x;dsimp only;go_wp2_with fail;go_end0;exact⟨rfl,K.out.1,K.out.2⟩
def SrcK(X:Nat->Prop)(b:Nat)(w:World)(a:Option Addr)(m:List (BitVec 8)):Prop:=
 m.length=0∨∃ab off,a=some ⟨ab,off,none⟩/\X ab/\ab≠b/\∀i<m.length,w.cell? ⟨ab,off+i,none⟩=some (B (gl m i))
theorem SrcK.srcP {X:Nat->Prop} {b:Nat} {w:World} {a:Option Addr} {m:List (BitVec 8)}(h:SrcK X b w a m):SrcP w a m.length m:=by
 rcases h with h | ⟨c,off,d,_,_,e⟩
 ·exact .inl h
 exact .inr ⟨c,off,d,e⟩
theorem cell_of_heap {w w':World} {p:Addr} {v:Value}(h:w.cell? p=some v)(a:w'.heap[p.block]? =w.heap[p.block]?):w'.cell? p=some v:=by
 simp only[World.cell?]at h ⊢;rw[a];exact h
theorem SrcK.kept {X:Nat->Prop} {b:Nat} {w w':World} {a:Option Addr} {m:List (BitVec 8)}(h:SrcK X b w a m)(l:PKept X b w w'):SrcK X b w' a m:=by
 rcases h with h | ⟨c,off,n,d,e,j⟩
 ·exact .inl h
 refine .inr ⟨c,off,n,d,e,λi k=>cell_of_heap (j i k) (l.2.2.2.2.1 c d e ?_)⟩;exact block_lt_of_cell (j i k)
theorem ptext_any(w:World)(X:Nat->Prop)(b n c:Nat)(a:Option Addr)(l m:List (BitVec 8))(d:n=m.length)(j:SrcK X b w a m)(o:n<=4096)(r:PenAt X w b l)(h:∀k,X k->k<w.heap.size)(p:l.length<=1073731000):
  Calls prog 119 #[.pointer (some ⟨b,0,none⟩),.slice a n c] w (PenEnd X b w (l++textL m) (.bool true)):=by
 have M:¬(4096:Int)<(n:Int):=by omega
 have y:=Lh (pnumber_any w X b n l (by omega) r h (by omega))
 have z:=Lh (bfy d (bfy j (bfy h (bfy p o))));clear d j o r h p;go_enter func119,ntmps119;go_wp2_with fail;refine y.out.mono ?_;rintro e D ⟨rfl,s,q⟩;obtain⟨d,j,h,p,o⟩:=z.out;have E:(wordL n).length<=10:=wordL_length n;have F:=Lh (pfixed_any D X b n c a (l++wordL n) m d (j.kept q).srcP s (λk I=>Nat.lt_of_lt_of_le (h k I) q.size) (by rw[bft];omega))
 have J:Hid (l++textL m=l++wordL n++m):=by
  show _=_;rw[textL,d,bgz]
 have K:=Lh q;clear d j h p o E s q;dsimp only;go_wp2_with fail;refine F.out.mono ?_;rintro e N ⟨rfl,u,x⟩;have L:=Lh (bfy u (K.out.trans x));clear u x;dsimp only;go_wp2_with fail;go_ret;exact⟨rfl,by rw[J.out];exact L.out⟩
theorem pbytes_any(w:World)(X:Nat->Prop)(b:Nat)(l:List (BitVec 8))(r:PenAt X w b l)(h:l.length<=1073741824):
  Calls prog 26 #[.pointer (some ⟨b,0,none⟩)] w (BytesEnd w l):=by
 obtain⟨v,j,m,s⟩:=r;obtain⟨a,c,rfl,u,x,d,o⟩:=own_src m;have y:w.cell? ⟨b,0,none⟩=some (.slice a l.length c):=by rw[cell_of_row _ _ _ _ _ _ j];rfl
 have p:=Lh (bclone_any w a c l.length l rfl o.srcP d h);obtain⟨n,q⟩:=Nm (l.length);rw[<-q]at y p;clear j m u x o d h q;go_enter func26,ntmps26;go_wp2_with fail;refine p.out.mono ?_;rintro e F ⟨z,D,rfl,k⟩;have E:=Lh k;clear k;dsimp only;go_wp2_with fail;go_ret;exact⟨z,D,rfl,E.out⟩
end Go.Proofs.YtgfmbkoieacgoaaGreatDoor
set_option maxRecDepth 100000
set_option maxHeartbeats 2000000
namespace Go.Proofs.YtgfmbkoieacgoaaGreatDoor
open Go Go.RowKit Go.Proofs.Tryz
def SrcR(base b:Nat)(w:World)(a:Option Addr)(m:List (BitVec 8)):Prop:=
 m.length=0∨∃ab off,a=some ⟨ab,off,none⟩/\ab<base/\ab≠b/\∀i<m.length,w.cell? ⟨ab,off+i,none⟩=some (B (gl m i))
theorem SrcR.grown {c b:Nat} {w w':World} {a:Option Addr} {m:List (BitVec 8)}(h:SrcR c b w a m)(e:w.grownBy w' (some b)):SrcR c b w' a m:=by
 rcases h with h | ⟨j,off,k,l,d,n⟩
 ·exact .inl h
 exact .inr ⟨j,off,k,l,d,λi o=>e.cell (n i o) (by simpa using d)⟩
theorem SrcR.drop {c b:Nat} {w:World} {a:Option Addr} {m:List (BitVec 8)}(h:SrcR c b w a m)(k:Nat)(d:Nat)(p:m.length<=d)(q:k<=m.length):SrcR c b w (if d=k then a else a.map (·.add k)) (m.drop k):=by
 by_cases r:m.length<=k
 ·exact .inl (by rw[bgx];omega)
 rcases h with h | ⟨e,off,rfl,j,l,n⟩
 ·omega
 rw[if_neg (show ¬d=k by omega)]
 refine .inr ⟨e,off+k,by simp[addr_add],j,l,λi o=>?_⟩
 rw[bgx]at o;rw[Nat.add_assoc,n (k+i) (by omega)]
 simp[gl]
theorem SrcR.take {c b:Nat} {w:World} {a:Option Addr} {m:List (BitVec 8)}(h:SrcR c b w a m)(k:Nat):SrcP w a (m.take k).length (m.take k):=by
 rcases h with h | ⟨d,off,rfl,l,n,e⟩
 ·exact .inl (by rw[bga];omega)
 refine .inr ⟨d,off,rfl,λi j=>?_⟩;rw[bga]at j;rw[e i (by omega)]
 have:i<k:=by omega
 simp[gl,this]
def RdAt(base:Nat)(w:World)(b:Nat)(t:TapeL):Prop:=
 ∃a n c,w.heap[b]? =some (.cells #[.slice a n c,.int .i64 t.e] 103 (0,0))/\n=t.s.length/\n<=c/\c<=9223372036854775807/\(a=none->c=0)/\SrcR base b w a t.s/\(t.e≠0->t.s=[])/\t.s.length<=1073741824
def RdEnd(base:Nat)(w:World)(b:Nat)(t:TapeL)(v:Value)(e:Ending)(w':World):Prop:=e=.returned v/\RdAt base w' b t/\w.grownBy w' (some b)
theorem RdAt.lt {d b:Nat} {w:World} {t:TapeL}(h:RdAt d w b t):b<w.heap.size:=by
 obtain⟨a,n,c,e,_⟩:=h;exact(Array.getElem?_eq_some_iff.1 e).1
theorem RdAt.same {d b:Nat} {w w':World} {t:TapeL}(h:RdAt d w b t)(p:w'.heap[b]? =w.heap[b]?)(q:∀k<d,k<w.heap.size->k≠b->w'.heap[k]? =w.heap[k]?):RdAt d w' b t:=by
 obtain⟨a,n,c,r,s,u,x,y,e,z⟩:=h;refine⟨a,n,c,p.trans r,s,u,x,y,?_,z⟩;rcases e with e | ⟨l,off,D,m,o,E⟩
 ·exact .inl e
 refine .inr ⟨l,off,D,m,o,λi F=>?_⟩;have j:=E i F;have I:=block_lt_of_cell j;simp only[World.cell?]at j ⊢;rw[q l m I o];exact j
theorem RdAt.below {a b:Nat} {w w':World} {t:TapeL}(h:RdAt a w b t)(c:Bw w w'):RdAt a w' b t:=
 h.same (c.block b h.lt) λk _ d _=>c.block k d
theorem rd_cells {w:World} {b n c:Nat} {a:Option Addr} {e:Int}(d:w.heap[b]? =some (.cells #[.slice a n c,.int .i64 e] 103 (0,0))):
  w.cell? ⟨b,0,none⟩=some (.slice a n c)/\w.cell? ⟨b,1,none⟩=some (.int .i64 e)/\w.frozen? ⟨b,0,none⟩=false/\w.frozen? ⟨b,1,none⟩=false:=by
 refine⟨?_,?_,frozen_of_row w b 0 _ _ d,frozen_of_row w b 1 _ _ d⟩
 ·rw[cell_of_row _ _ _ _ _ _ d];rfl
 rw[cell_of_row _ _ _ _ _ _ d];rfl
theorem rread_any(w:World)(a:Option Addr)(c n:Nat)(m:List (BitVec 8))(z:n=m.length)(h:SrcP w a m.length m)(D:a=none->c=0)(o:m.length<=1073741824):
  Calls prog 22 #[.slice a n c] w λe w'=>∃b,e=.returned (.pointer (some ⟨b,0,none⟩))/\RdAt w'.heap.size w' b ⟨m,0⟩/\w.heap.size<=b/\Bw w w':=by
 have I:=Lh (bclone_any w a c n m z h D o);have J:=Lh o;obtain⟨P,s⟩:∃P:Ending->World->Prop,P=λe w'=>∃b,e=.returned (.pointer (some ⟨b,0,none⟩))/\RdAt w'.heap.size w' b ⟨m,0⟩/\w.heap.size<=b/\Bw w w':=⟨_,rfl⟩;rw[<-s];have K:=Lh s;clear z h D o s;go_enter func22,ntmps22;go_wp2_with fail;refine I.out.mono ?_;rintro e j ⟨L,M,rfl,q,r,d,k,l⟩;have O:=Lh (bfy q (bfy r (bfy d (bfy k l))));obtain⟨N,u⟩:=Nm (m.length);rw[<-u];have E:=Lh u;clear q r d k l u;dsimp only;go_wp2_with fail;rw[K.out];obtain⟨q,r,d,k,l⟩:=O.out;refine⟨j.heap.size,rfl,⟨L,N,M,bg5 j _,E.out,by rw[E.out];exact q,r,d,?_,λh=>(h rfl).elim,J.out⟩,l.size,l.trans ((Below.refl _ j).alloc l.size _)⟩
 rcases k with k | ⟨x,off,Q,U,y⟩
 ·exact .inl k
 by_cases R:m.length=0
 ·exact .inl R
 have o:=block_lt_of_cell (y 0 (by omega))
 have S:x<j.heap.size:=o;refine .inr ⟨x,off,Q,by simp;omega,by omega,λi F=>?_⟩
 exact(((Below.refl _ j).alloc (bfx _) _:Bw j _).cell (p:=⟨x,off+i,none⟩) (block_lt_of_cell (y i F))).trans (y i F)
theorem rerr_any(w:World)(d b:Nat)(t:TapeL)(h:RdAt d w b t):Calls prog 74 #[.pointer (some ⟨b,0,none⟩)] w λe w'=>e=.returned (.int .i64 t.e)/\w'=w:=by
 obtain⟨a,n,c,j,_⟩:=h;obtain⟨c0,c1,k,l⟩:=rd_cells j;clear j;go_enter func74,ntmps74;go_wp2_with fail;go_ret;exact⟨rfl,rfl⟩
theorem rleft_any(w:World)(d b:Nat)(t:TapeL)(h:RdAt d w b t):Calls prog 80 #[.pointer (some ⟨b,0,none⟩)] w λe w'=>e=.returned (.int .i64 (t.s.length:Int))/\w'=w:=by
 obtain⟨a,n,c,j,k,_⟩:=h;rw[<-k];obtain⟨c0,c1,l,m⟩:=rd_cells j;clear j k;go_enter func80,ntmps80;go_wp2_with fail;go_ret;exact⟨rfl,rfl⟩
theorem rend_any(w:World)(c b:Nat)(t:TapeL)(h:RdAt c w b t):Calls prog 29 #[.pointer (some ⟨b,0,none⟩)] w λe w'=>e=.returned (.int .i64 t.done)/\w'=w:=by
 have m:=Lh (rerr_any w c b t h);have q:=Lh (rleft_any w c b t h);obtain⟨n,d⟩:=Nm (t.e);obtain⟨o,j⟩:=Nm (t.s.length);obtain⟨r,a⟩:=Nm (t.done);rw[<-d]at m;rw[<-j]at q;rw[<-a];unfold TapeL.done at a;have l:t.s≠[]↔0<o:=by rw[j,List.length_pos_iff]
 rw[<-d]at a;clear h;by_cases k:n=0
 ·have y:(n !=0)=false:=by rw[k];rfl
  by_cases p:0<o
  ·have u:(0:Int)<(o:Int):=by omega
   obtain rfl:r=13:=by rw[a,if_pos ⟨k,l.2 p⟩]
   clear k p l d j a;go_enter func29,ntmps29;go_wp2_with fail;refine m.out.mono ?_;rintro e x ⟨rfl,rfl⟩;dsimp only;go_wp2_with fail;refine q.out.mono ?_;rintro e z ⟨rfl,rfl⟩;dsimp only;go_wp2_with fail;go_ret;exact⟨rfl,rfl⟩
  have u:¬(0:Int)<(o:Int):=by omega
  obtain rfl:r=0:=by rw[a,if_neg (λh=>p (l.1 h.2)),k]
  clear k p l d j a;go_enter func29,ntmps29;go_wp2_with fail;refine m.out.mono ?_;rintro e x ⟨rfl,rfl⟩;dsimp only;go_wp2_with fail;refine q.out.mono ?_;rintro e z ⟨rfl,rfl⟩;dsimp only;go_wp2_with fail;go_ret;exact⟨rfl,rfl⟩
 have y:(n !=0)=true:=by simpa using k
 obtain rfl:r=n:=by rw[a,if_neg (λh=>k h.1)]
 clear k l d j a;go_enter func29,ntmps29;go_wp2_with fail;refine m.out.mono ?_;rintro e x ⟨rfl,rfl⟩;dsimp only;go_wp2_with fail;go_ret;exact⟨rfl,rfl⟩
theorem rfail_any(w:World)(d b:Nat)(t:TapeL)(e:Int)(h:RdAt d w b t):
  Calls prog 73 #[.pointer (some ⟨b,0,none⟩),.int .i64 e] w (RdEnd d w b (t.fail e) (.tuple #[])):=by
 obtain⟨a,n,c,o,r⟩:=h;obtain⟨c0,c1,y,z⟩:=rd_cells o;have p:=Lh (bfy o r);clear o r;obtain⟨q,k⟩:=Nm (t.e);rw[<-k]at c1;have s:=Lh k;clear k;by_cases m:e=0
 ·have u:(e==0)=true:=by rw[m];rfl
  have j:t.fail e=t:=if_neg (by omega)
  rw[j];clear m j;go_enter func73,ntmps73;go_wp2_with fail;go_end0;exact⟨rfl,⟨a,n,c,p.out⟩,grown_refl _ _⟩
 have u:(e==0)=false:=by simpa using m
 by_cases l:q=0
 ·have x:(q !=0)=false:=by rw[l];rfl
  have j:t.fail e=⟨[],e⟩:=if_pos ⟨by rw[<-s.out];exact l,m⟩
  rw[j];clear l m j;go_enter func73,ntmps73;go_wp2_with fail;go_end0;refine⟨rfl,⟨none,0,0,?_,rfl,bfx _,by omega,λ_=>rfl,.inl rfl,λ_=>rfl,by simp⟩,grown_trans (grown_setCell w b 1 _) (grown_setCell _ b 0 _)⟩
  have l:=heap_setCell_same w b 1 _ _ (.int .i64 e) p.out.1;exact heap_setCell_same _ b 0 _ _ (.slice none 0 0) l
 have x:(q !=0)=true:=by simpa using l
 have j:t.fail e=t:=if_neg (by have:=s.out;omega)
 rw[j];clear l m j;go_enter func73,ntmps73;go_wp2_with fail;go_end0;exact⟨rfl,⟨a,n,c,p.out⟩,grown_refl _ _⟩
theorem frame62(A:Array Value)(h:A.size=62):∃u:Nat->Value,(∀i,i<62->A[i]? =some (u i))/\A=List.toArray (u 0::u 1::u 2::u 3::u 4::u 5::u 6::u 7::u 8::u 9::u 10::u 11::u 12::u 13::u 14::u 15::u 16::u 17::u 18::u 19::u 20::u 21::u 22::u 23::u 24::u 25::u 26::u 27::u 28::u 29::u 30::u 31::u 32::u 33::u 34::u 35::u 36::u 37::u 38::u 39::u 40::u 41::u 42::u 43::u 44::u 45::u 46::u 47::u 48::u 49::u 50::u 51::u 52::u 53::u 54::u 55::u 56::u 57::u 58::u 59::u 60::u 61::[]):=by
 refine⟨λi=>A.getD i undef,λi a=>by simp[h,a],?_⟩
 have:=frame_list A;rw[h]at this;apply Array.ext';rw[this];rfl
def RNext(b:Nat)(w:World)(l0:List (BitVec 8))(a:Act)(w':World):Prop:=
 w'=w/\a.defers=[]/\a.tmps.size=62/\a.tmps[0]? =some (.pointer (some ⟨b,0,none⟩))/\a.tmps[6]? =some (.int .i64 10)/\
  ∃i n acc:Nat,i+n=9/\acc<128 ^ i/\i<=l0.length/\a.tmps[3]? =some (.int .u64 (acc:Int))/\a.tmps[5]? =some (.int .i64 (i:Int))/\rdW (n+1) i acc (l0.drop i)=rdW 10 0 0 l0
def RWrong(b:Nat)(w:World)(l0:List (BitVec 8))(a:Act)(w':World):Prop:=
 w'=w/\a.defers=[]/\a.tmps.size=62/\a.tmps[0]? =some (.pointer (some ⟨b,0,none⟩))/\∃(k v:Nat) (r:List (BitVec 8)),k≠0/\a.tmps[6]? =some (.int .i64 (k:Int))/\rdW 10 0 0 l0=(k,v,r)
def rmeasure(a:Act)(_:World):Nat:=11-(intOf ((a.tmps[5]?).getD undef)).toNat
theorem word_wrong {t:TapeL} {k v:Nat} {r:List (BitVec 8)}(h:rdW 10 0 0 t.s=(k,v,r))(b:k≠0):t.word=(0,t.fail (k:Int)):=by
 unfold TapeL.word;by_cases a:t.e=0
 ·rw[if_neg (by simp[a]),h,if_neg b]
 rw[if_pos a,TapeL.fail,if_neg (λh=>a h.1)]
def RBadCut(bad:Bool)(i x:Nat)(W1:World)(si sx s:Value)(wx:World):Prop:=si=.int .i64 (i:Int)/\sx=.int .u8 (x:Int)/\s=.bool bad/\wx=W1
theorem andNot8:∀x:Fin 256,bits .andNot .u8 (x.val:Int) 128=((x.val % 128:Nat):Int):=by decide+kernel
theorem or_sum(a z k y:Nat)(b:z=2 ^ k*y)(c:a<2 ^ k)(d:a+z<18446744073709551616):bits .or .u64 (a:Int) (z:Int)=((a+z:Nat):Int):=by
 have e:∀n:Nat,BitVec.ofInt 64 (n:Int)=BitVec.ofNat 64 n:=λn=>by
  apply BitVec.eq_of_toNat_eq;simp
 show IntKind.u64.wrap ((BitVec.ofInt 64 (a:Int) ||| BitVec.ofInt 64 (z:Int)).toNat:Int)=_
 rw[e,e,BitVec.toNat_or,BitVec.toNat_ofNat,BitVec.toNat_ofNat,Nat.mod_eq_of_lt (by omega),Nat.mod_eq_of_lt (by omega)]
 have h:=Nat.two_pow_add_eq_or_of_lt c y;rw[<-b]at h;rw[Nat.or_comm,<-h,Nat.add_comm,wrapU64 _ d]
theorem rword_any(w:World)(ag b:Nat)(t:TapeL)(h:RdAt ag w b t):
  Calls prog 120 #[.pointer (some ⟨b,0,none⟩)] w (RdEnd ag w b t.word.2 (.int .u64 (t.word.1:Int))):=by
 obtain⟨a,n,c,hb,hn,Z,aa,ac,J,M,E⟩:=id h;obtain⟨c0,c1,f0,f1⟩:=rd_cells hb;have HH:=Lh h;have HX:=Lh (bfy hb (bfy hn (bfy Z (bfy aa (bfy ac (bfy J (bfy M E)))))));clear h hb hn Z aa ac J M E;go_enter func120,ntmps120;go_wp2_with fail;refine wp_scope_two 0 1 (RWrong b w t.s) (RNext b w t.s) rmeasure rfl rfl ?_ ?_ ?_
 ·rintro⟨A,D⟩ w' ⟨rfl,hd,hs,h0,k,v,r,hk,h6,hr⟩;obtain⟨u,hu,rfl⟩:=frame62 A hs;have v0:u 0=.pointer (some ⟨b,0,none⟩):=Option.some.inj ((hu 0 (by omega)).symm.trans h0)
  have v6:u 6=.int .i64 (k:Int):=Option.some.inj ((hu 6 (by omega)).symm.trans h6)
  rw[v0,v6];have HF:=Lh (rfail_any w' ag b t (k:Int) HH.out);have HW:Hid (t.word=(0,t.fail (k:Int))):=word_wrong hr hk;obtain rfl:D=[]:=hd;clear hu v0 v6 hs h0 hk h6 hr;go_wp2_with fail;refine HF.out.mono ?_;rintro e w1 ⟨rfl,k1,k2⟩;have HZ:=Lh (bfy k1 k2);clear k1 k2;dsimp only;go_wp2_with fail;simp only[Exit.jumps];go_ret;rw[HW.out];exact⟨rfl,HZ.out⟩
 ·rintro⟨A,D⟩ w' ⟨rfl,hd,hs,h0,h6,i,n',F,I,q,N,h3,h5,ah⟩;obtain⟨u,hu,rfl⟩:=frame62 A hs;have v0:u 0=.pointer (some ⟨b,0,none⟩):=Option.some.inj ((hu 0 (by omega)).symm.trans h0)
  have v6:u 6=.int .i64 10:=Option.some.inj ((hu 6 (by omega)).symm.trans h6)
  have v3:u 3=.int .u64 (F:Int):=Option.some.inj ((hu 3 (by omega)).symm.trans h3)
  have v5:u 5=.int .i64 (i:Int):=Option.some.inj ((hu 5 (by omega)).symm.trans h5)
  rw[v0,v3,v5,v6];obtain rfl:D=[]:=hd;clear hu v0 v6 v3 v5 hs h0 h6 h3 h5;obtain⟨hb,hn,Z,aa,ac,J,M,E⟩:=HX.out;have i0:0<=(i:Int):=by omega
  by_cases ad:i<n
  ·rcases J with J | ⟨ab,off,rfl,ao,ap,O⟩
   ·omega
   have ar:=O i (by omega)
   obtain⟨x,hx⟩:=Nm ((gl t.s i).toNat);have o:x<256:=by rw[hx];exact(gl t.s i).isLt
   have au:w'.cell? ⟨ab,off+i,none⟩=some (.int .u8 (x:Int)):=by rw[ar,B,hx]
   have i1:(i:Int)<(n:Int):=by omega
   have ei:((i:Int)==(n:Int))=false:=by simp;omega
   clear ar;have ai:t.s.drop i=gl t.s i::t.s.drop (i+1):=by
    rw[List.drop_eq_getElem_cons (by omega:i<t.s.length)]
    congr 1
    have av:i<t.s.length:=by omega
    simp[gl,av]
   have d:rdW (n'+1) i F (gl t.s i::t.s.drop (i+1))=if badB i x then (11,0,[])else if x<128 then (0,F+x % 128*128 ^ i,t.s.drop (i+1))else rdW n' (i+1) (F+x % 128*128 ^ i) (t.s.drop (i+1)):=by
    rw[rdW_cons,<-hx]
   rw[ai]at ah;rw[ah]at d;have HS:=Lh d;have HI:=Lh (bfy I (bfy q N));have aA:=Lh O;clear hb hn Z aa ac M E ao ap O ah ai d hx N;obtain⟨bad,l⟩:=Nm (badB i x);have al:=Lh l;have aB:=Lh (bfy ad o);have HN:=Lh (show n=t.s.length/\n<=c from⟨HX.out.2.1,HX.out.2.2.1⟩);clear I q ad o;go_upto_region 8 with fail;clear ei au i1;go_cut[5,4,36]from 23 to 36 (λsi sx s wx=>RBadCut bad i x w' si sx s wx)
   case first=>
    rw[badB]at l;by_cases i0:0<i
    ·have q2:(0:Int)<(i:Int):=by omega
     by_cases x0:x=0
     ·have q1:((x:Int)==0)=true:=by rw[x0];rfl
      have R:bad=true:=by rw[l];exact bfr (.inl ⟨x0,i0⟩)
      have S:i=i:=rfl;have Y:x=0:=x0;have m:=Lh (bfy R (bfy S Y));clear x0 i0 R S Y l;go_wp2_with fail;go_meet;exact⟨by first | rfl | (rw[m.out.2.1];done) | (rw[m.out.2.1];rfl),by first | rfl | (rw[m.out.2.2];done) | (rw[m.out.2.2];rfl),by rw[m.out.1],rfl⟩
     have q1:((x:Int)==0)=false:=by simp;omega
     by_cases i9:i=9
     ·have q4:((i:Int)==9)=true:=by rw[i9];rfl
      by_cases x1:1<x
      ·have q5:(1:Int)<(x:Int):=by omega
       have R:bad=true:=by rw[l];exact bfr (.inr ⟨i9,x1⟩)
       have S:i=9:=i9;have Y:x=x:=rfl;have m:=Lh (bfy R (bfy S Y));clear x0 i0 i9 x1 R S Y l;go_wp2_with fail;go_meet;exact⟨by first | rfl | (rw[m.out.2.1];done) | (rw[m.out.2.1];rfl),by first | rfl | (rw[m.out.2.2];done) | (rw[m.out.2.2];rfl),by rw[m.out.1],rfl⟩
      have q5:¬(1:Int)<(x:Int):=by omega
      have R:bad=false:=by rw[l];exact bfq (by omega)
      have S:i=9:=i9;have Y:x=x:=rfl;have m:=Lh (bfy R (bfy S Y));clear x0 i0 i9 x1 R S Y l;go_wp2_with fail;go_meet;exact⟨by first | rfl | (rw[m.out.2.1];done) | (rw[m.out.2.1];rfl),by first | rfl | (rw[m.out.2.2];done) | (rw[m.out.2.2];rfl),by rw[m.out.1],rfl⟩
     have q4:((i:Int)==9)=false:=by simp;omega
     have R:bad=false:=by rw[l];exact bfq (by omega)
     have S:i=i:=rfl;have Y:x=x:=rfl;have m:=Lh (bfy R (bfy S Y));clear x0 i0 i9 R S Y l;go_wp2_with fail;go_meet;exact⟨by first | rfl | (rw[m.out.2.1];done) | (rw[m.out.2.1];rfl),by first | rfl | (rw[m.out.2.2];done) | (rw[m.out.2.2];rfl),by rw[m.out.1],rfl⟩
    have q2:¬(0:Int)<(i:Int):=by omega
    have q4:((i:Int)==9)=false:=by simp;omega
    have R:bad=false:=by rw[l];exact bfq (by omega)
    have S:i=0:=by omega
    have Y:x=x:=rfl;have m:=Lh (bfy R (bfy S Y));clear i0 R S Y l;go_wp2_with fail;go_meet;exact⟨by first | rfl | (rw[m.out.2.1];done) | (rw[m.out.2.1];rfl),by first | rfl | (rw[m.out.2.2];done) | (rw[m.out.2.2];rfl),by rw[m.out.1],rfl⟩
   case rest=>
    obtain⟨rfl,rfl,rfl,rfl⟩:=hcut;clear l;have d:=HS.out;rw[<-al.out]at d;clear HS
    cases bad with
    | true=>
     rw[if_pos rfl]at d;have HR:=Lh d;clear d;go_wp2_with fail;go_step3;exact .inl ⟨rfl,rfl,rfl,rfl,rfl,11,0,[],by decide,rfl,HR.out⟩
    | false=>
     obtain⟨I,q,N⟩:=HI.out;obtain⟨ad,o⟩:=aB.out;obtain⟨y,hy⟩:=Nm (x % 128);have aC:bits .andNot .u8 (x:Int) 128=(y:Int):=by rw[hy];exact andNot8 ⟨x,o⟩
     have aE:∀w,(convert 5 145 (.int .u8 (y:Int))).run prog w=.ok (.int .u64 (y:Int)) w:=λw=>by
      simp[convert,Conv.intToInt,run_underlying underlying5,run_underlying underlying145,wrapU64 y (by omega)]
     have i9:(i:Int)<=9:=by omega
     rw[if_neg (by decide),<-hy]at d
     have aw:¬((x=0/\0<i)∨(i=9/\1<x)):=of_decide_eq_false al.out.symm;obtain⟨z,hz⟩:=Nm (y*128 ^ i);rw[<-hz]at d;obtain⟨U,hU⟩:=Nm (128 ^ i);have am:0<U:=by rw[hU];exact Nat.pow_pos (by decide)
     have ax:z<=127*U:=by rw[hz,hU];exact Nat.mul_le_mul_right _ (by omega)
     have p:F+z<18446744073709551616/\(i<9->F+z<128 ^ (i+1)):=by
      rcases bg1 i 9 with h9 | h9
      ·have h1:128 ^ (i+1)<=128 ^ 9:=Nat.pow_le_pow_right (by decide) (by omega)
       rw[Nat.pow_succ,<-hU,p9]at h1;rw[Nat.pow_succ,<-hU];omega
      have:i=9:=by omega
      subst this;have h2:z<=1*U:=by rw[hz,hU];exact Nat.mul_le_mul_right _ (by omega)
      rw[p9]at hU;omega
     have aD:IntKind.u64.wrap ((y:Int)*2 ^ (7*i))=(z:Int):=by
      have e:(y:Int)*2 ^ (7*i)=(z:Int):=by
       rw[hz,Int.natCast_mul,Int.natCast_pow,Int.pow_mul];rfl
      rw[e,wrapU64 z (by omega)]
     obtain⟨a2,aj⟩:=Nm (F+z);have aF:bits .or .u64 (F:Int) (z:Int)=(a2:Int):=by
      rw[aj];refine or_sum F z (7*i) y (by rw[hz,Nat.pow_mul];exact Nat.mul_comm _ _) ?_ (by omega)
      rw[Nat.pow_mul];exact q
     rw[<-aj]at d p;obtain⟨j,hj⟩:=Nm (i+1);have ej:(i:Int)+1=(j:Int):=by omega
     have ae:j<=n:=by omega
     obtain⟨sa,L⟩:=Nm (if c=j then (some ⟨ab,off,none⟩:Option Addr)else (some (⟨ab,off,none⟩:Addr)).map (·.add j))
     obtain⟨sn,Q⟩:=Nm (n - j);obtain⟨sc,af⟩:=Nm (c - j);have aG:∀w,(Instr.slice 43 (.slice (some ⟨ab,off,none⟩) n c) (some (.int .i64 (j:Int))) none none).run prog w=.ok (.slice sa sn sc) w:=λw=>by
      rw[L,Q,af];exact run_slice_sl_any 43 5 underlying43 (λw=>sizeOf5 w) (some ⟨ab,off,none⟩) n c j ae w
     rw[<-hj]at d p;have HJ:=Lh (bfy L (bfy Q (bfy af (bfy ae (bfy hj (bfy p I))))));by_cases ak:x<128
     ·have x1:¬(128:Int)<=(x:Int):=by omega
      rw[if_pos ak]at d;have HR:=Lh d;clear ak d I q N ad o hy aw hz hU am ax p aj hj ae L Q af;go_wp2_with fail;simp only[Exit.jumps];go_ret;obtain⟨hb,hn,Z,aa,ac,J,M,E⟩:=HX.out;obtain⟨L,Q,af,ae,hj,p,I⟩:=HJ.out;have ay:t.e=0:=by
       by_cases h:t.e=0
       ·exact h
       have h2:=M h;rw[h2]at hn;simp at hn;omega
      rw[tapeWord_ok ay HR.out];have hg:=grown_setCell wc b 0 (.slice sa sn sc);refine⟨rfl,⟨sa,sn,sc,?_,?_,by omega,by omega,?_,?_,λh=>(h rfl).elim,?_⟩,hg⟩
      ·have:=heap_setCell_same wc b 0 _ _ (.slice sa sn sc) hb;rw[ay]at this;exact this
      ·show sn=(t.s.drop j).length;rw[bgx,Q,hn]
      ·intro h;rw[L]at h
       split at h <;> cases h
      ·have:=(J.grown hg).drop j c (by omega) (by omega)
       rw[<-L]at this;exact this
      show(t.s.drop j).length<=_;rw[bgx];omega
     have x1:(128:Int)<=(x:Int):=by omega
     rw[if_neg ak]at d;have az:i<9:=by omega
     obtain⟨n2,an⟩:∃n2,n'=n2+1:=⟨n' - 1,by omega⟩
     rw[an]at d;have HR:=Lh (bfy d (bfy an (bfy az N)));clear ak d I q N ad o hy aw hz hU am ax p aj hj ae L Q af az an;go_wp2_with fail;go_step3;obtain⟨L,Q,af,ae,hj,p,I⟩:=HJ.out;have hn:=HN.out;refine .inr ⟨rfl,⟨rfl,rfl,rfl,rfl,rfl,j,n2,a2,?_,?_,?_,rfl,rfl,?_⟩,?_⟩
     ·have:=HR.out.2.1;omega
     ·exact p.2 HR.out.2.2.1
     ·omega
     ·exact HR.out.1.symm
     simp[rmeasure,intOf];omega
  obtain rfl:i=n:=by omega
  have ei:((i:Int)==(i:Int))=true:=by simp
  have hr:rdW 10 0 0 t.s=(10,0,[]):=by
   rw[<-ah,hn,List.drop_length];rfl
  have HR:=Lh hr;clear hb hn Z aa ac J M E ad hr ah I q N;go_wp2_with fail;go_step3;exact .inl ⟨rfl,rfl,rfl,rfl,rfl,10,0,[],by decide,rfl,HR.out⟩
 intro hp;go_wp2_with fail;go_step3;simp only[Exit.then]
 rename_i K hK;refine hK _ _ (hp _ _ ?_);exact⟨rfl,rfl,rfl,rfl,rfl,0,9,0,rfl,by decide,bgi _,rfl,rfl,rfl⟩
theorem word_err {t:TapeL}(h:t.word.2.e≠0):t.word.1=0:=by
 unfold TapeL.word at h ⊢;by_cases a:t.e≠0
 ·rw[if_pos a]
 rw[if_neg a]at h ⊢;by_cases b:(rdW 10 0 0 t.s).1=0
 ·rw[if_pos b]at h;exact absurd rfl h
 rw[if_neg b]
theorem fail_err {t:TapeL}(h:t.e≠0)(k:Int):t.fail k=t:=if_neg λa=>h a.1
theorem rnumber_any(w:World)(a b:Nat)(t:TapeL)(c:Int)(h:RdAt a w b t):
  Calls prog 69 #[.pointer (some ⟨b,0,none⟩),.int .i64 c] w (RdEnd a w b (t.number c).2 (.int .i64 (t.number c).1)):=by
 have r:=Lh (rword_any w a b t h);have o:=@word_err t;obtain⟨v,u⟩:=Nm (t.word.1);obtain⟨s,z⟩:=Nm (t.word.2);have p:v<18446744073709551616:=by rw[u];exact t.word_lt
 rw[TapeL.number,<-u,<-z];rw[<-u,<-z]at r o;clear u z h;by_cases k:9223372036854775807<v
 ·have F:(9223372036854775807:Int)<(v:Int):=by omega
  rw[if_pos k];clear k p o;go_enter func69,ntmps69;go_wp2_with fail;refine r.out.mono ?_;rintro e x ⟨rfl,d,j⟩;have n:=Lh (bfy d j);clear d j;dsimp only;go_wp2_with fail;refine(rfail_any x a b s 11 n.out.1).mono ?_;rintro e I ⟨rfl,l,m⟩;have q:=Lh (bfy l m);clear l m;dsimp only;go_wp2_with fail;go_ret;exact⟨rfl,q.out.1,grown_trans n.out.2 q.out.2⟩
 have F:¬(9223372036854775807:Int)<(v:Int):=by omega
 rw[if_neg k];have J:=λw=>run_conv_u64_i64n w v (by omega)
 clear p k;by_cases D:c<(v:Int)
 ·have E:(if s.e=0/\c<(v:Int)then ((0:Int),s.fail 12)else ((v:Int),s))=(0,s.fail 12):=by
   by_cases y:s.e=0
   ·rw[if_pos ⟨y,D⟩]
   rw[if_neg (λh=>y h.1),fail_err y,o y];rfl
  rw[E];clear o E;go_enter func69,ntmps69;go_wp2_with fail;refine r.out.mono ?_;rintro e x ⟨rfl,d,j⟩;have n:=Lh (bfy d j);clear d j;dsimp only;go_wp2_with fail;refine(rfail_any x a b s 12 n.out.1).mono ?_;rintro e I ⟨rfl,l,m⟩;have q:=Lh (bfy l m);clear l m;dsimp only;go_wp2_with fail;go_ret;exact⟨rfl,q.out.1,grown_trans n.out.2 q.out.2⟩
 ·rw[if_neg (λh=>D h.2)];clear o;go_enter func69,ntmps69;go_wp2_with fail;refine r.out.mono ?_;rintro e x ⟨rfl,d,j⟩;have n:=Lh (bfy d j);clear d j;dsimp only;go_wp2_with fail;go_ret;exact⟨rfl,n.out.1,n.out.2⟩
theorem bits_and1(v:Nat)(h:v<18446744073709551616):bits .and .u64 (v:Int) 1=((v % 2:Nat):Int):=by
 have e:BitVec.ofInt 64 (v:Int)=BitVec.ofNat 64 v:=by
  apply BitVec.eq_of_toNat_eq;simp
 show IntKind.u64.wrap ((BitVec.ofInt 64 (v:Int) &&& BitVec.ofInt 64 1).toNat:Int)=_;have a:BitVec.ofInt 64 1=BitVec.ofNat 64 1:=rfl;rw[e,a,BitVec.toNat_and,BitVec.toNat_ofNat,BitVec.toNat_ofNat,Nat.mod_eq_of_lt (by omega:v<2 ^ 64)]
 rw[show(1 % 2 ^ 64:Nat)=1 from rfl,Nat.and_one_is_mod,wrapU64 _ (by omega)]
theorem bits_xor_i64(q:Nat)(h:q<9223372036854775808):bits .xor .i64 (-1) (q:Int)=-(q:Int)-1:=by
 have e:BitVec.ofInt 64 (q:Int)=BitVec.ofNat 64 q:=by
  apply BitVec.eq_of_toNat_eq;simp
 have a:BitVec.ofInt 64 (-1)=BitVec.allOnes 64:=by decide+kernel
 show IntKind.i64.wrap ((BitVec.ofInt 64 (-1) ^^^ BitVec.ofInt 64 (q:Int)).toNat:Int)=_;rw[e,a,BitVec.allOnes_xor,BitVec.toNat_not];simp[IntKind.wrap,IntKind.bits,IntKind.signed];omega
theorem rsigned_any(w:World)(a b:Nat)(t:TapeL)(h:RdAt a w b t):
  Calls prog 72 #[.pointer (some ⟨b,0,none⟩)] w (RdEnd a w b t.signed.2 (.int .i64 t.signed.1)):=by
 have s:=Lh (rword_any w a b t h);obtain⟨v,o⟩:=Nm (t.word.1);have j:v<18446744073709551616:=by rw[o];exact t.word_lt
 rw[TapeL.signed,<-o];rw[<-o]at s;clear o h;obtain⟨q,p⟩:=Nm (v / 2);obtain⟨r,k⟩:=Nm (v % 2);have D:(v:Int) / 2=(q:Int):=by omega
 have u:=bits_and1 v j;rw[<-k]at u;have x:=λw=>run_conv_u64_i64n w q (by omega)
 have E:=bits_xor_i64 q (by omega)
 by_cases l:r=1
 ·have y:((r:Int)==1)=true:=by rw[l];rfl
  have m:zag v=-(q:Int)-1:=by rw[zag,<-k,if_pos l,<-p]
  rw[m];clear m l p k j;go_enter func72,ntmps72;go_wp2_with fail;refine s.out.mono ?_;rintro e z ⟨rfl,c,d⟩;have n:=Lh (bfy c d);clear c d;dsimp only;go_wp2_with fail;go_ret;exact⟨rfl,n.out.1,n.out.2⟩
 have y:((r:Int)==1)=false:=by simp;omega
 have m:zag v=(q:Int):=by rw[zag,<-k,if_neg l,<-p]
 rw[m];clear m l p k j;go_enter func72,ntmps72;go_wp2_with fail;refine s.out.mono ?_;rintro e z ⟨rfl,c,d⟩;have n:=Lh (bfy c d);clear c d;dsimp only;go_wp2_with fail;go_ret;exact⟨rfl,n.out.1,n.out.2⟩
def RdBytes(base:Nat)(w:World)(b:Nat)(x:List (BitVec 8) × TapeL)(e:Ending)(w':World):Prop:=
 ∃a c,e=.returned (.slice a x.1.length c)/\SrcN w.heap.size w' a x.1/\RdAt base w' b x.2/\w.grownBy w' (some b)
theorem fixed_neg {t:TapeL} {n:Int}(h:n<0):t.fixed n=([],t.fail 2):=by
 unfold TapeL.fixed;by_cases a:t.e=0
 ·rw[if_neg (by simp[a]),if_pos h]
 rw[if_pos a,fail_err a]
theorem fixed_long {t:TapeL} {n:Int}(h:(t.s.length:Int)<n):t.fixed n=([],t.fail 10):=by
 unfold TapeL.fixed;by_cases a:t.e=0
 ·rw[if_neg (by simp[a]),if_neg (by omega),if_pos h]
 rw[if_pos a,fail_err a]
theorem fixed_good {t:TapeL} {n:Nat}(h:n<=t.s.length)(b:t.e≠0->t.s=[]):t.fixed (n:Int)=(t.s.take n,⟨t.s.drop n,t.e⟩):=by
 unfold TapeL.fixed;by_cases a:t.e=0
 ·rw[if_neg (by simp[a]),if_neg (by omega),if_neg (by omega)]
  simp
 rw[if_pos a];have:=b a;obtain⟨s,e⟩:=t;obtain rfl:s=[]:=this;simp
theorem rfixed_any(w:World)(E b:Nat)(t:TapeL)(n:Int)(h:RdAt E w b t):
  Calls prog 174 #[.pointer (some ⟨b,0,none⟩),.int .i64 n] w (RdBytes E w b (t.fixed n)):=by
 obtain⟨a,L,c,J,O,x,y,l,o,p,j⟩:=id h;obtain⟨c0,c1,f0,f1⟩:=rd_cells J;by_cases F:n<0
 ·rw[fixed_neg F];have HF:=Lh (rfail_any w E b t 2 h);clear h J O x y l o p j;go_enter func174,ntmps174;go_wp2_with fail;refine HF.out.mono ?_;rintro e R ⟨rfl,K,M⟩;have S:=Lh (bfy K M);clear K M;dsimp only;go_wp2_with fail;go_ret;exact⟨none,0,rfl,.inl rfl,S.out⟩
 obtain⟨m,rfl⟩:=Int.eq_ofNat_of_zero_le (show 0<=n by omega)
 have m0:¬(m:Int)<0:=F;by_cases d:L<m
 ·have m1:(L:Int)<(m:Int):=by omega
  rw[fixed_long (by rw[<-O];exact m1)]
  have HF:=Lh (rfail_any w E b t 10 h);clear h J O x y l o p j d F;go_enter func174,ntmps174;go_wp2_with fail;refine HF.out.mono ?_;rintro e R ⟨rfl,K,M⟩;have S:=Lh (bfy K M);clear K M;dsimp only;go_wp2_with fail;go_ret;exact⟨none,0,rfl,.inl rfl,S.out⟩
 have m1:¬(L:Int)<(m:Int):=by omega
 rw[fixed_good (by omega) p]
 have ab:∀w,(Instr.slice 43 (.slice a L c) none (some (.int .i64 (m:Int))) none).run prog w=.ok (.slice a m c) w:=λw=>
  run_slice_sl_h 43 5 underlying43 (λw=>sizeOf5 w) a L c m (by omega) w
 obtain⟨sa,u⟩:=Nm (if c=m then a else a.map (·.add m))
 obtain⟨U,z⟩:=Nm (L - m);obtain⟨sc,D⟩:=Nm (c - m);have aa:∀w,(Instr.slice 43 (.slice a L c) (some (.int .i64 (m:Int))) none none).run prog w=.ok (.slice sa U sc) w:=λw=>by
  rw[u,z,D];exact run_slice_sl_any 43 5 underlying43 (λw=>sizeOf5 w) a L c m (by omega) w
 have q:m=(t.s.take m).length:=by rw[bga];omega
 have HC:=Lh (bclone_any w a c m (t.s.take m) q (o.take m) l (by rw[<-q];omega))
 have HX:=Lh (bfy J (bfy O (bfy x (bfy y (bfy l (bfy o (bfy p (bfy j (bfy u (bfy z (bfy D (bfy d q))))))))))));clear h J O x y l o p j d F u z D q;go_enter func174,ntmps174;go_wp2_with fail;refine HC.out.mono ?_;rintro e R ⟨a',c',rfl,_,_,_,I,r⟩;obtain⟨J,O,x,y,l,o,p,j,u,z,D,d,q⟩:=HX.out;have Q:=(Array.getElem?_eq_some_iff.1 J).1;have N:=(r.block b Q).trans J;obtain⟨d0,d1,g0,g1⟩:=rd_cells N;rw[<-q];have S:=Lh (bfy I (bfy r N));clear J O x y l o p j u z D d q Q N I r;dsimp only;go_wp2_with fail;go_ret;obtain⟨J,O,x,y,l,o,p,j,u,z,D,d,q⟩:=HX.out;obtain⟨I,r,N⟩:=S.out;have Q:=(Array.getElem?_eq_some_iff.1 J).1;have hg:=grown_setCell R b 0 (.slice sa U sc);have Y:w.grownBy R (some b):=⟨r.os,r.tape,r.output,r.size,λk hk _=>r.block k hk⟩;refine⟨a',c',by show _=Ending.returned (.slice a' (t.s.take m).length c');rw[<-q];rfl,I.grown hg Q,⟨sa,U,sc,heap_setCell_same R b 0 _ _ (.slice sa U sc) N,?_,by omega,by omega,?_,?_,?_,?_⟩,grown_trans Y hg⟩
 ·show U=(t.s.drop m).length;rw[bgx,z,O]
 ·intro h;rw[u]at h;by_cases Z:c=m
  ·rw[D];omega
  rw[if_neg Z]at h;have:a=none:=by
   cases a with
   | none=>rfl
   | some a=>cases h
  have:=l this;omega
 ·have:=((o.grown Y).grown hg).drop m c (by omega) (by omega)
  rw[<-u]at this;exact this
 ·intro h;show t.s.drop m=[];rw[p h];simp
 show(t.s.drop m).length<=_;rw[bgx];omega
theorem fixed_err {t:TapeL}(h:t.e≠0)(n:Int):t.fixed n=([],t):=if_pos h
theorem text_eq(t:TapeL)(a:Int):t.text a=(t.number a).2.fixed (t.number a).1:=by
 unfold TapeL.text TapeL.number;have l:=@word_err t;obtain⟨v,d⟩:=Nm (t.word.1);obtain⟨s,j⟩:=Nm (t.word.2);rw[<-d,<-j];rw[<-d,<-j]at l;clear d j;by_cases b:9223372036854775807<v
 ·simp only[if_pos b];have m:s.e=0:=by
   by_cases h:s.e=0
   ·exact h
   have:=l h;omega
  have c:(s.fail 11).e≠0:=by
   rw[TapeL.fail,if_pos ⟨m,by decide⟩]
   show(11:Int)≠0;decide
  rw[if_neg (λh=>c h.1)]
 simp only[if_neg b];rw[if_neg (show ¬(s.e=0/\(9223372036854775807:Int)<(v:Int)) by omega)]
 by_cases k:s.e=0/\a<(v:Int)
 ·simp only[if_pos k];have c:(s.fail 12).e≠0:=by
   rw[TapeL.fail,if_pos ⟨k.1,by decide⟩]
   show(12:Int)≠0;decide
  rw[fixed_err c,fixed_err c]
 simp only[if_neg k]
theorem rtext_any(w:World)(c b:Nat)(t:TapeL)(a:Int)(h:RdAt c w b t):
  Calls prog 121 #[.pointer (some ⟨b,0,none⟩),.int .i64 a] w (RdBytes c w b (t.text a)):=by
 rw[text_eq];have q:=Lh (rnumber_any w c b t a h);obtain⟨k,l⟩:=Nm ((t.number a).1);obtain⟨s,m⟩:=Nm ((t.number a).2);rw[<-l,<-m];rw[<-l,<-m]at q;clear l m h;go_enter func121,ntmps121;go_wp2_with fail;refine q.out.mono ?_;rintro e z ⟨rfl,d,j⟩;have D:=Lh (rfixed_any z c b s k d);have r:=Lh j;clear d j;dsimp only;go_wp2_with fail;refine D.out.mono ?_;rintro e I ⟨E,F,rfl,u,x,y⟩;have n:=Lh (bfy u (bfy x y));obtain⟨N,o⟩:=Nm ((s.fixed k).1.length);rw[<-o];have p:=Lh o;clear u x y o;dsimp only;go_wp2_with fail;go_ret;exact⟨E,F,by rw[<-p.out];rfl,n.out.1.mono r.out.size,n.out.2.1,grown_trans r.out n.out.2.2⟩
end Go.Proofs.YtgfmbkoieacgoaaGreatDoor
