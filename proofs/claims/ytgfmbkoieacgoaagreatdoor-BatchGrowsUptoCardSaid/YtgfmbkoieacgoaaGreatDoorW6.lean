/- 6. -/
import Derived.Test.YtgfmbkoieacgoaaGreatDoorW4
import Derived.Test.YtgfmbkoieacgoaaGreatDoorW5
namespace Go.Proofs.YtgfmbkoieacgoaaGreatDoor
open Go Go.ChangeShapes Go.WideShapes Go.ChangeAt Go.WideMaps Go.WideElems Go.RowKit Go.Proofs.Tryz
def sameI(x y:ItemL):Bool:=x.kind==y.kind && (decide (x.key=y.key) && (x.time==y.time && x.value==y.value))
theorem map4 {α β:Type}(g:α->β):∀(l:List α) (a b c d:β),l.map g=[a,b,c,d]->∃e j k m,l=[e,j,k,m]/\g e=a/\g j=b/\g k=c/\g m=d
 | [],_,_,_,_,h=>by simp at h
 | [_],_,_,_,_,h=>by simp at h
 | [_,_],_,_,_,_,h=>by simp at h
 | [_,_,_],_,_,_,_,h=>by simp at h
 | [e,j,k,m],_,_,_,_,h=>by
  simp only[bgc,bge,List.cons.injEq,and_true]at h;exact⟨e,j,k,m,rfl,h⟩
 | _::_::_::_::_::_,_,_,_,_,h=>by simp at h
theorem eqF_step {P : Program} {w : World} {d : Nat} {xs c : Array Value} {f : Field} {e : List Field} (a b : Value) (r : Bool) (h : f.name ≠ "_") (j : (part f.type xs f.offset).run P w = .ok a w) (k : (part f.type c f.offset).run P w = .ok b w)
  (l:(Op.equalIn d f.type a b).run P w=.ok r w):(Op.eqFields d xs c (f::e)).run P w=if r then (Op.eqFields d xs c e).run P w else .ok false w:=by
 simp only[Op.eqFields,if_pos h,Sem.run_bind,j,k,l,Result.andThen_ok];cases r <;> simp
theorem run_equal_item(w:World)(x y:ItemL):(Op.equalIn 10000 32 (.agg x.cells) (.agg y.cells)).run prog w=.ok (sameI x y) w:=by
 rw[run_equalIn_agg w 9999 32 _ _ (by kernel_rfl) (by kernel_rfl)]
 have E : (prog.fieldsOf 32).toList.map (fun f => (f.name, f.type, f.offset)) = [("Kind", 3, 0), ("Key", 9, 1), ("Time", 3, 2), ("Value", 3, 3)] := by kernel_rfl
 generalize (prog.fieldsOf 32).toList=l at E
 obtain⟨m,n,o,p,rfl,N⟩:=map4 _ _ _ _ _ _ E;obtain⟨O,Q,R,S⟩:=N
 obtain ⟨U, q, F⟩ : m.name = "Kind" ∧ m.type = 3 ∧ m.offset = 0 := by simpa using O
 obtain ⟨Y, r, I⟩ : n.name = "Key" ∧ n.type = 9 ∧ n.offset = 1 := by simpa using Q
 obtain ⟨Z, s, J⟩ : o.name = "Time" ∧ o.type = 3 ∧ o.offset = 2 := by simpa using R
 obtain ⟨n3, u, K⟩ : p.name = "Value" ∧ p.type = 3 ∧ p.offset = 3 := by simpa using S
 have L:∀z:ItemL,(part 3 z.cells 0).run prog w=.ok (.int .i64 z.kind) w:=λz=>by simp[part,go_sem,ItemL.cells]
 have M:∀z:ItemL,(part 9 z.cells 1).run prog w=.ok (Sv z.key) w:=λz=>by simp[part,go_sem,ItemL.cells]
 have p2:∀z:ItemL,(part 3 z.cells 2).run prog w=.ok (.int .i64 z.time) w:=λz=>by simp[part,go_sem,ItemL.cells]
 have p3:∀z:ItemL,(part 3 z.cells 3).run prog w=.ok (.int .i64 z.value) w:=λz=>by simp[part,go_sem,ItemL.cells]
 have D:∀(d:Nat) (a b:Int),(Op.equalIn (d+1) 3 (.int .i64 a) (.int .i64 b)).run prog w=.ok (a==b) w:=λd a b=>run_equalIn_int w d 3 .i64 .i64 a b underlying3;have e2:∀(d:Nat) (a b:List (BitVec 8)),(Op.equalIn (d+1) 9 (Sv a) (Sv b)).run prog w=.ok (decide (a=b)) w:=λd a b=>by
  rw[Sv,Sv,run_equalIn_string w d 9 _ _ underlying9,str_eq]
 obtain⟨a,b,c,d⟩:=x;obtain⟨e,h,j,k⟩:=y;rw[eqF_step (.int .i64 a) (.int .i64 e) (a==e) (by rw[U];decide) (by rw[q,F];exact L ⟨a,b,c,d⟩) (by rw[q,F];exact L ⟨e,h,j,k⟩) (by rw[q];exact D 9998 a e),
  eqF_step (Sv b) (Sv h) (decide (b=h)) (by rw[Y];decide) (by rw[r,I];exact M ⟨a,b,c,d⟩) (by rw[r,I];exact M ⟨e,h,j,k⟩) (by rw[r];exact e2 9998 b h),
  eqF_step (.int .i64 c) (.int .i64 j) (c==j) (by rw[Z];decide) (by rw[s,J];exact p2 ⟨a,b,c,d⟩) (by rw[s,J];exact p2 ⟨e,h,j,k⟩) (by rw[s];exact D 9998 c j),
  eqF_step (.int .i64 d) (.int .i64 k) (d==k) (by rw[n3];decide) (by rw[u,K];exact p3 ⟨a,b,c,d⟩) (by rw[u,K];exact p3 ⟨e,h,j,k⟩) (by rw[u];exact D 9998 d k)]
 simp only[sameI];cases a==e <;> cases decide (b=h) <;> cases c==j <;> cases d==k <;> rfl
theorem run_eql_item(w:World)(x y:ItemL):(binOp .eql 32 (.agg x.cells) (.agg y.cells)).run prog w=.ok (.bool (sameI x y)) w:=by
 rw[run_eql_struct,run_equal_item];rfl
theorem run_guard_item(w:World)(a:BinOp)(b c:Operand)(x y:ItemL):(eqGuard a 32 b c (.agg x.cells) (.agg y.cells)).run prog w=.ok () w:=run_eqGuard_agg w a _ b c _ _ (by kernel_rfl)
def ItemsAt(w:World)(a:Option Addr)(l:List ItemL):Prop:=
 l=[]∨∃b o,a=some ⟨b,o,none⟩/\∀i x,l[i]? =some x->∀j v,x.cells[j]? =some v->w.cell? ⟨b,o+i*4+j,none⟩=some v
theorem ItemsAt.below {w w':World} {a:Option Addr} {l:List ItemL}(h:ItemsAt w a l)(k:Bw w w'):ItemsAt w' a l:=by
 rcases h with h | ⟨b,o,h,c⟩
 ·exact .inl h
 exact .inr ⟨b,o,h,λi x d j v e=>(k.cell (block_lt_of_cell (c i x d j v e))).trans (c i x d j v e)⟩
theorem cells_lt {x:ItemL} {j:Nat} {v:Value}(h:x.cells[j]? =some v):j<4:=by
 have:=(Array.getElem?_eq_some_iff.1 h).1;simpa[ItemL.cells]using this
theorem item_one1(x:ItemL):x.cells.all (·.oneCell')=true:=by
 rw[Array.all_eq_true'];intro v a;simp only[ItemL.cells,List.mem_toArray,bf2,bf9,or_false]at a;rcases a with rfl | rfl | rfl | rfl <;> rfl
def ItemL.ok(x:ItemL):Prop:=(-9223372036854775808<=x.kind/\x.kind<9223372036854775808)/\(-9223372036854775808<=x.time/\x.time<9223372036854775808)/\(-9223372036854775808<=x.value/\x.value<9223372036854775808)
theorem open_int' {H:Type} {enc:TypeId × Value->H} {w:World} {v:Value} {y:DataW H × List MemPlace} {n:Nat}(h:DataW.trod enc prog w 0 (λ_=>true) true n 3 [v]=some y):
  ∃k:Int,v=.int .i64 k/\ -9223372036854775808<=k/\k<9223372036854775808:=by
 obtain⟨k,d,_,c⟩:=DataW.trod_int underlying3 h;simp only[List.cons.injEq,and_true]at d;have a:IntKind.i64.min=-9223372036854775808:=rfl;have b:IntKind.i64.max=9223372036854775807:=rfl;simp only[Lit.wf,bf8,bf0,a,b]at c;exact⟨k,d,by omega,by omega⟩
namespace bulkI
theorem mem_le {H:Type} {d:DataW H}:∀{l:List (DataW H)},d∈l->Rows.uptoBulk d<=Rows.uptoBulkAll l
 | x::l,h=>by
  simp only[Rows.uptoBulkAll];rcases List.mem_cons.1 h with rfl | h
  ·omega
  have:=mem_le h;omega
theorem one_le {H:Type}(d:DataW H):1<=Rows.uptoBulk d:=by
 cases d with
 | lit l=>cases l <;> simp[Rows.uptoBulk]
 | nil=>simp[Rows.uptoBulk]
 | ptr d=>simp[Rows.uptoBulk]
 | slice elems spare=>simp[Rows.uptoBulk]
 | agg parts=>simp[Rows.uptoBulk]
 | iface t d=>simp[Rows.uptoBulk]
 | map entries=>simp[Rows.uptoBulk]
 | held h=>simp[Rows.uptoBulk]
theorem length_le {H:Type}(l:List (DataW H)):l.length<=Rows.uptoBulkAll l:=by
 induction l with
 | nil=>simp[Rows.uptoBulkAll]
 | cons x r ih=>have:=one_le x;simp only[Rows.uptoBulkAll,bgy];omega
end bulkI
theorem open_recsB {P:Program} {T E:TypeId} {k:Array Field}(hT:P.underlying T=some (.slice E))(hE:P.underlying E=some (.struct k))(ce:P.cellsOf E=k.size)(hB:recB P k=true)(h0:0<k.size)
  {H:Type} {enc:TypeId × Value->H} {w:World} {a:Option Addr} {len r:Nat} {d:DataW H} {p:List MemPlace} (h:DataW.Trod enc P w 0 (λ_=>true) true T (.slice a len r) d p):
  len<=r/\r<=maxLen/\len<=Rows.uptoBulk d/\(len=0∨∃b o,a=some ⟨b,o,none⟩/\∀i<len,∀(j:Nat) (f:Field),k[j]? =some f->
   ∃(v:Value) (y:DataW H × List MemPlace) (n:Nat),w.cell? ⟨b,o+i*k.size+j,none⟩=some v/\DataW.trod enc P w 0 (λ_=>true) true n f.type [v]=some y/\Rows.uptoBulk y.1<=Rows.uptoBulk d):=by
 obtain⟨fuel,hf⟩:=h;rcases Deep.open_slice hT hf with⟨e,_⟩ | ⟨x,l,c,m,n,D,Pl,e,_,hl,hm,z,M,hr⟩
 ·simp[Value.cells]at e;obtain⟨rfl,rfl,rfl⟩:=e;exact⟨bfx _,bgi _,bgi _,.inl rfl⟩
 simp[Value.cells]at e;obtain⟨rfl,rfl,rfl⟩:=e;simp only[if_true]at z;subst z;simp only[Prod.mk.injEq]at M;have N:len<=Rows.uptoBulk d:=by
  rw[M.1];simp only[Rows.uptoBulk];have:=bulkI.length_le ((List.range len).map D);simp only[bfz,List.length_range]at this;omega
 refine⟨hl,hm,N,?_⟩;by_cases hz:len=0
 ·exact .inl hz
 right
 have each:∀i<len,∀(j:Nat) (f:Field),k[j]? =some f->∃(v:Value) (y:DataW H × List MemPlace) (n:Nat),w.cell? ((x.add (i*k.size)).add j)=some v/\DataW.trod enc P w 0 (λ_=>true) true n f.type [v]=some y/\
   Rows.uptoBulk y.1<=Rows.uptoBulk d:=by
  intro i O j f F;obtain⟨U,Y,h2⟩:=hr i (by omega)
  rw[ce]at Y;obtain⟨_,Z,s⟩:=World.cells?_some Y;obtain⟨u,q,_,I,_,aa,Q⟩:=DataW.trod_struct hE h2;obtain⟨ho,hc⟩:=recB_spec hB F;have R:j<k.size:=(Array.getElem?_eq_some_iff.1 F).1;have J:j<U.length:=by omega
  have g:=Q j f F;rw[ho,hc,List.drop_eq_getElem_cons J,List.take_succ_cons,List.take_zero,bfs (show j<u.length by omega)]at g
  refine⟨U[j],u[j],q,by rw[s j R,bfs J],g,?_⟩
  simp only[Prod.mk.injEq]at I;have S:D i∈(List.range len).map D:=List.mem_map.2 ⟨i,List.mem_range.2 O,rfl⟩;have h3:=bulkI.mem_le S;have h4:Rows.uptoBulk u[j].1<=Rows.uptoBulk (D i):=by
   rw[I.1];simp only[Rows.uptoBulk];have:u[j].1∈u.map (·.1):=List.mem_map.2 ⟨u[j],List.getElem_mem _,rfl⟩
   have:=bulkI.mem_le this;omega
  rw[M.1];simp only[Rows.uptoBulk];omega
 obtain⟨b,off,K⟩:=x;have hs:K=none:=by
  obtain⟨v,_,_,L,_⟩:=each 0 (by omega) 0 k[0] (bgm h0)
  have:=World.cell?_spot L;simpa[Addr.add]using this
 subst hs;refine⟨b,off,rfl,λi O j f F=>?_⟩;obtain⟨v,y,q,L,hy,hk⟩:=each i O j f F;rw[addr_add,addr_add]at L;exact⟨v,y,q,L,hy,hk⟩
theorem open_str {H:Type} {enc:TypeId × Value->H} {w:World} {v:Value} {y:DataW H × List MemPlace} {n:Nat}(h:DataW.trod enc prog w 0 (λ_=>true) true n 9 [v]=some y):
  ∃k:List (BitVec 8),v=Sv k/\k.length<=Rows.uptoBulk y.1/\(∀m∈y.1.weights prog 9,m<=reachBytes)=(k.length<=reachBytes):=by
 obtain⟨s,c,d,j⟩:=DataW.trod_string underlying9 h;simp only[List.cons.injEq,and_true]at c;obtain⟨k,e,a⟩:=sv_of s;have b:s.data.toList.length=k.length:=by rw[a];exact bgq
 refine⟨k,c.trans e,?_,?_⟩
 ·rw[d];simp only[Rows.uptoBulk];omega
 rw[d];simp only[DataW.weights,bgd,forall_eq,b]
theorem open_items {H:Type} {enc:TypeId × Value->H} {w:World} {a:Option Addr} {len z:Nat} {d:DataW H} {p:List MemPlace}
  (h:DataW.Trod enc prog w 0 (λ_=>true) true 24 (.slice a len z) d p):
  ∃l:List ItemL,l.length=len/\ItemsAt w a l/\(∀x∈l,x.ok/\x.key.length<=Rows.uptoBulk d)/\len<=Rows.uptoBulk d:=by
 obtain⟨R,S,D,q⟩:=open_recsB underlying24 underlying32 (by kernel_rfl) (by kernel_rfl) (by decide) h
 rcases q with rfl | ⟨b,o,rfl,q⟩
 ·exact⟨[],rfl,.inl rfl,by simp,bgi _⟩
 have each:∀i<len,∃x:ItemL,(∀j v,x.cells[j]? =some v->w.cell? ⟨b,o+i*4+j,none⟩=some v)/\x.ok/\x.key.length<=Rows.uptoBulk d:=by
  intro i c;obtain⟨U,Y,Z,c0,F,_⟩:=q i c 0 _ rfl;obtain⟨v1,y1,n1,c1,I,J⟩:=q i c 1 _ rfl;obtain⟨v2,y2,n2,c2,K,_⟩:=q i c 2 _ rfl;obtain⟨v3,y3,n3,c3,L,_⟩:=q i c 3 _ rfl;obtain⟨k,rfl,M⟩:=open_int' F;obtain⟨s,rfl,N,_⟩:=open_str I;obtain⟨t,rfl,O⟩:=open_int' K;obtain⟨v,rfl,Q⟩:=open_int' L;refine⟨⟨k,s,t,v⟩,λj u e=>?_,⟨M,O,Q⟩,bgn N J⟩
  match j,e with
  | 0,e=>cases e;exact c0
  | 1,e=>cases e;exact c1
  | 2,e=>cases e;exact c2
  | 3,e=>cases e;exact c3
  | k+4,e=>simp[ItemL.cells]at e
 classical
 let f:Nat->ItemL:=λr=>if h:r<len then Classical.choose (each r h)else ⟨0,[],0,0⟩
 have E:∀r<len,(∀j v,(f r).cells[j]? =some v->w.cell? ⟨b,o+r*4+j,none⟩=some v)/\(f r).ok/\(f r).key.length<=Rows.uptoBulk d:=λr m=>by
  simp only[f,dif_pos m];exact Classical.choose_spec (each r m)
 refine⟨(List.range len).map f,by simp,.inr ⟨b,o,rfl,λi y n=>?_⟩,λy n=>?_,D⟩
 ·rw[bgf]at n;have c:i<len:=by
   rcases bg1 i len with c | c
   ·exact c
   rw[bgk (by simpa using c)]at n
   cases n
  rw[List.getElem?_range c]at n;simp only[Option.map_some,bf5]at n;subst n;exact(E i c).1
 obtain⟨r,m,rfl⟩:=List.mem_map.1 n;exact(E r (List.mem_range.1 m)).2
def cellsL(l:List ItemL):List Value:=l.flatMap λx=>x.cells.toList
def OwnI(w:World)(base:Nat)(v:Value)(l:List ItemL):Prop:=w.ownsRow base 32 4 v l.length (cellsL l)
theorem cellsL_at(l:List ItemL):∀(i:Nat) (x:ItemL) (j:Nat) (v:Value),l[i]? =some x->x.cells[j]? =some v->(cellsL l)[i*4+j]? =some v:=by
 induction l with
 | nil=>intro i x j v h;simp at h
 | cons y l ih=>
  intro i x j v h a;have d:j<4:=cells_lt a;have c:(cellsL (y::l))=y.cells.toList++cellsL l:=rfl;have b:y.cells.toList.length=4:=rfl
  cases i with
  | zero=>
   simp only[bgp,bf5]at h;subst h;rw[c,Nat.zero_mul,bgu,List.getElem?_append_left (by omega)]
   simpa using a
  | succ i=>
   rw[c,List.getElem?_append_right (by omega),b,show(i+1)*4+j-4=i*4+j by omega]
   exact ih i x j v (by simpa using h) a
theorem OwnI.nil(w:World)(a:Nat):OwnI w a (.slice none 0 0) []:=World.ownsRow_nil w a _ 4
theorem OwnI.form {w:World} {b:Nat} {v:Value} {l:List ItemL}(h:OwnI w b v l):∃a c,v=.slice a l.length c/\ItemsAt w a l:=by
 have e:=h;rcases h.2 with⟨d,k⟩ | ⟨g,o,p,d,_⟩
 ·exact⟨none,0,by rw[d,k],.inl (bg3 k)⟩
 refine⟨_,_,d,.inr ⟨g,0,rfl,λi x m j u n=>?_⟩⟩;unfold OwnI at e;rw[d]at e;have q:i<l.length:=(List.getElem?_eq_some_iff.1 m).1;have r:j<4:=cells_lt n;rw[show 0+i*4+j=i*4+j by omega,World.ownsRow.cellAt e _ (by omega)]
 exact cellsL_at l i x j u m n
theorem OwnI.kept {w w':World} {a:Nat} {v:Value} {l:List ItemL}(h:OwnI w a v l) {row:Option Nat}(c:w.grownBy w' row)(b:v.ownBlock=none∨v.ownBlock≠row):OwnI w' a v l:=World.ownsRow.kept h c b
theorem OwnI.far {w w':World} {a:Nat} {v:Value} {l:List ItemL}(h:OwnI w a v l)(b:Bw w w'):OwnI w' a v l:=
 h.kept (grown_none_below b) (by cases c:v.ownBlock <;> simp)
theorem OwnI.lt {w:World} {a:Nat} {v:Value} {l:List ItemL}(h:OwnI w a v l) {k:Nat}(b:v.ownBlock=some k):a<=k/\k<w.heap.size:=World.ownsRow.lt h k b
theorem cellsL_snoc(l:List ItemL)(x:ItemL):cellsL (l++[x])=cellsL l++x.cells.toList:=by simp[cellsL]
theorem wpList_pushI {m:Array Oper} {c:List Oper} {o:Oper} {a:Act} {Q:Exit->Act->World->Prop} {w:World}(p:o.guard=none)(s x:Operand)
  (E:o.op=.call { callee:=.builtin .append,args:=#[s,x],argTypes:=#[24,24] })
  (b:Nat) (v:Value) (l:List ItemL) (F:a.eval s=v) (n:OwnI w b v l) (u:ItemL) (g:Nat) (I:a.eval x=.slice (some ⟨g,0,none⟩) 1 1) (J:∀j z,u.cells[j]? =some z->w.cell? ⟨g,j,none⟩=some z)
  (D:l.length+1<=1000000) (d:b<=w.heap.size)
  (h:∀k w',OwnI w' b k (l++[u])->w.grownBy w' v.ownBlock->(k.ownBlock=v.ownBlock∨k.ownBlock=some w.heap.size)->wpList prog m Q c (a.put o.dst k) w'):
  wpList prog m Q (o::c) a w:=by
 obtain⟨i,K,q,r,y⟩:=info_parts (P:=prog) (e:=32) (z:=.agg #[.int .i64 0,.string ⟨#[]⟩,.int .i64 0,.int .i64 0]) (size:=4) (bytes:=40) (by kernel_rfl)
 refine wpList_append_own_at _ p s x 24 E b 32 i _ 4 40 underlying24 K q r y rfl (by decide) v l.length (cellsL l) F n ⟨g,0,none⟩ 1 1 u.cells.toList I rfl ?_ ?_ (by unfold maxLen;omega) (by omega) d ?_
 ·intro j z L;rw[addr_add,bgu];exact J j z (by simpa using L)
 ·intro z M;exact Array.all_eq_true'.1 (item_one1 u) z (by simpa using M)
 intro k w' N O _ R;refine h k w' ?_ O R;unfold OwnI;rw[cellsL_snoc,bft];exact N
end Go.Proofs.YtgfmbkoieacgoaaGreatDoor
