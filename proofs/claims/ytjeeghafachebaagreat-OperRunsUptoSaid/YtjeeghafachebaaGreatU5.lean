/-
  5.
-/
import Derived.Test.YtjeeghafachebaaGreatU3
import Derived.Test.YtjeeghafachebaaGreatU4
namespace Go.Proofs.YtjeeghafachebaaGreat
open Go Go.ChangeShapes Go.WideShapes Go.ChangeAt Go.WideMaps Go.WideElems Go.RowKit Go.Proofs.Tryz
def sG(x y:bN):Bool:=x.kind==y.kind && (decide (x.key=y.key) && (x.time==y.time && x.value==y.value))
theorem MK(x y:bN):sG x y=true↔x=y:=by
 obtain⟨a,b,c,d⟩:=x;obtain⟨a',b',c',d'⟩:=y;simp[sG]
theorem R3 {α β:Type}(g:α->β):∀(l:List α) (a b c d:β),l.map g=[a,b,c,d]->∃x0 x1 x2 x3,l=[x0,x1,x2,x3]/\g x0=a/\g x1=b/\g x2=c/\g x3=d
 | [],_,_,_,_,h=>by simp at h
 | [_],_,_,_,_,h=>by simp at h
 | [_,_],_,_,_,_,h=>by simp at h
 | [_,_,_],_,_,_,_,h=>by simp at h
 | [x0,x1,x2,x3],_,_,_,_,h=>by
  simp only[bgc,bge,List.cons.injEq,and_true]at h;exact⟨x0,x1,x2,x3,rfl,h⟩
 | _::_::_::_::_::_,_,_,_,_,h=>by simp at h
theorem nz {P : Program} {w : World} {d : Nat} {xs ys : Array Value} {f : Field} {fs : List Field} (a b : Value) (r : Bool) (hn : f.name ≠ "_") (ha : (part f.type xs f.offset).run P w = .ok a w) (hb : (part f.type ys f.offset).run P w = .ok b w)
  (he:(Op.equalIn d f.type a b).run P w=.ok r w):(Op.eqFields d xs ys (f::fs)).run P w=if r then (Op.eqFields d xs ys fs).run P w else .ok false w:=by
 simp only[Op.eqFields,if_pos hn,Sem.run_bind,ha,hb,he,Result.andThen_ok];cases r <;> simp
theorem sD(w:World)(x y:bN):(Op.equalIn 10000 42 (.agg x.cells) (.agg y.cells)).run prog w=.ok (sG x y) w:=by
 rw[run_equalIn_agg w 9999 42 _ _ (by kernel_rfl) (by kernel_rfl)]
 have hm : (prog.fieldsOf 42).toList.map (fun f => (f.name, f.type, f.offset)) = [("Kind", 3, 0), ("Key", 9, 1), ("Time", 3, 2), ("Value", 3, 3)] := by kernel_rfl
 generalize (prog.fieldsOf 42).toList=l at hm
 obtain⟨f0,f1,f2,f3,rfl,hq⟩:=R3 _ _ _ _ _ _ hm;obtain⟨h0,h1,h2,h3⟩:=hq
 obtain ⟨n0, t0, o0⟩ : f0.name = "Kind" ∧ f0.type = 3 ∧ f0.offset = 0 := by simpa using h0
 obtain ⟨n1, t1, o1⟩ : f1.name = "Key" ∧ f1.type = 9 ∧ f1.offset = 1 := by simpa using h1
 obtain ⟨n2, t2, o2⟩ : f2.name = "Time" ∧ f2.type = 3 ∧ f2.offset = 2 := by simpa using h2
 obtain ⟨n3, t3, o3⟩ : f3.name = "Value" ∧ f3.type = 3 ∧ f3.offset = 3 := by simpa using h3
 have p0:∀z:bN,(part 3 z.cells 0).run prog w=.ok (.int .i64 z.kind) w:=λz=>by simp[part,go_sem,bN.cells]
 have p1:∀z:bN,(part 9 z.cells 1).run prog w=.ok (Sv z.key) w:=λz=>by simp[part,go_sem,bN.cells]
 have p2:∀z:bN,(part 3 z.cells 2).run prog w=.ok (.int .i64 z.time) w:=λz=>by simp[part,go_sem,bN.cells]
 have p3:∀z:bN,(part 3 z.cells 3).run prog w=.ok (.int .i64 z.value) w:=λz=>by simp[part,go_sem,bN.cells]
 have e1:∀(d:Nat) (a b:Int),(Op.equalIn (d+1) 3 (.int .i64 a) (.int .i64 b)).run prog w=.ok (a==b) w:=λd a b=>run_equalIn_int w d 3 .i64 .i64 a b underlying3;have e2:∀(d:Nat) (a b:List (BitVec 8)),(Op.equalIn (d+1) 9 (Sv a) (Sv b)).run prog w=.ok (decide (a=b)) w:=λd a b=>by
  rw[Sv,Sv,run_equalIn_string w d 9 _ _ underlying9,str_eq]
 obtain⟨a,b,c,d⟩:=x;obtain⟨a',b',c',d'⟩:=y;rw[nz (.int .i64 a) (.int .i64 a') (a==a') (by rw[n0];decide) (by rw[t0,o0];exact p0 ⟨a,b,c,d⟩) (by rw[t0,o0];exact p0 ⟨a',b',c',d'⟩) (by rw[t0];exact e1 9998 a a'),
  nz (Sv b) (Sv b') (decide (b=b')) (by rw[n1];decide) (by rw[t1,o1];exact p1 ⟨a,b,c,d⟩) (by rw[t1,o1];exact p1 ⟨a',b',c',d'⟩) (by rw[t1];exact e2 9998 b b'),
  nz (.int .i64 c) (.int .i64 c') (c==c') (by rw[n2];decide) (by rw[t2,o2];exact p2 ⟨a,b,c,d⟩) (by rw[t2,o2];exact p2 ⟨a',b',c',d'⟩) (by rw[t2];exact e1 9998 c c'),
  nz (.int .i64 d) (.int .i64 d') (d==d') (by rw[n3];decide) (by rw[t3,o3];exact p3 ⟨a,b,c,d⟩) (by rw[t3,o3];exact p3 ⟨a',b',c',d'⟩) (by rw[t3];exact e1 9998 d d')]
 simp only[sG];cases a==a' <;> cases decide (b=b') <;> cases c==c' <;> cases d==d' <;> rfl
theorem wZ(w:World)(x y:bN):(binOp .eql 42 (.agg x.cells) (.agg y.cells)).run prog w=.ok (.bool (sG x y)) w:=by
 rw[run_eql_struct,sD];rfl
theorem FK(w:World)(x y:bN):(binOp .neq 42 (.agg x.cells) (.agg y.cells)).run prog w=.ok (.bool (!sG x y)) w:=by
 rw[run_neq_struct,sD];rfl
theorem nP(w:World)(op:BinOp)(o1 o2:Operand)(x y:bN):(eqGuard op 42 o1 o2 (.agg x.cells) (.agg y.cells)).run prog w=.ok () w:=run_eqGuard_agg w op _ o1 o2 _ _ (by kernel_rfl)
def gq(w:World)(a:Option Addr)(l:List bN):Prop:=
 l=[]∨∃b o,a=some ⟨b,o,none⟩/\∀i x,l[i]? =some x->∀j v,x.cells[j]? =some v->w.cell? ⟨b,o+i*4+j,none⟩=some v
theorem gq.below {w w':World} {a:Option Addr} {l:List bN}(h:gq w a l)(hB:Bw w w'):gq w' a l:=by
 rcases h with h | ⟨b,o,h,h'⟩
 ·exact .inl h
 exact .inr ⟨b,o,h,λi x hx j v hv=>(hB.cell (block_lt_of_cell (h' i x hx j v hv))).trans (h' i x hx j v hv)⟩
def bN.ok(x:bN):Prop:=(-9223372036854775808<=x.kind/\x.kind<9223372036854775808)/\(-9223372036854775808<=x.time/\x.time<9223372036854775808)/\(-9223372036854775808<=x.value/\x.value<9223372036854775808)
theorem open_int' {H:Type} {enc:TypeId × Value->H} {w:World} {v:Value} {y:DataW H × List MemPlace} {n:Nat}(h:DataW.trod enc prog w 0 (λ_=>true) true n 3 [v]=some y):
  ∃k:Int,v=.int .i64 k/\ -9223372036854775808<=k/\k<9223372036854775808:=by
 obtain⟨k,hk,_,hwf⟩:=DataW.trod_int underlying3 h;simp only[List.cons.injEq,and_true]at hk;have hmin:IntKind.i64.min=-9223372036854775808:=rfl;have hmax:IntKind.i64.max=9223372036854775807:=rfl;simp only[Lit.wf,bf8,bf0,hmin,hmax]at hwf;exact⟨k,hk,by omega,by omega⟩
namespace Xn
theorem JQ {H:Type} {d:DataW H}:∀{l:List (DataW H)},d∈l->Rows.uptoBulk d<=Rows.uptoBulkAll l
 | x::l,h=>by
  simp only[Rows.uptoBulkAll];rcases List.mem_cons.1 h with rfl | h
  ·omega
  have:=JQ h;omega
theorem QZ {H:Type}(d:DataW H):1<=Rows.uptoBulk d:=by
 cases d with
 | lit l=>cases l <;> simp[Rows.uptoBulk]
 | nil=>simp[Rows.uptoBulk]
 | ptr d=>simp[Rows.uptoBulk]
 | slice elems spare=>simp[Rows.uptoBulk]
 | agg parts=>simp[Rows.uptoBulk]
 | iface t d=>simp[Rows.uptoBulk]
 | map entries=>simp[Rows.uptoBulk]
 | held h=>simp[Rows.uptoBulk]
theorem length_le {H:Type}(l:List (DataW H)):l.length<=Rows.uptoBulkAll l:=by
 induction l with
 | nil=>simp[Rows.uptoBulkAll]
 | cons x r ih=>have:=QZ x;simp only[Rows.uptoBulkAll,bgy];omega
end Xn
theorem J2 {P:Program} {T E:TypeId} {fs:Array Field}(hT:P.underlying T=some (.slice E))(hE:P.underlying E=some (.struct fs))(ce:P.cellsOf E=fs.size)(hB:Q3 P fs=true)(h0:0<fs.size)
  {H:Type} {enc:TypeId × Value->H} {w:World} {a:Option Addr} {len cap:Nat} {d:DataW H} {p:List MemPlace} (h:DataW.Trod enc P w 0 (λ_=>true) true T (.slice a len cap) d p):
  len<=cap/\cap<=maxLen/\len<=Rows.uptoBulk d/\(len=0∨∃b o,a=some ⟨b,o,none⟩/\∀i<len,∀(j:Nat) (f:Field),fs[j]? =some f->
   ∃(v:Value) (y:DataW H × List MemPlace) (n:Nat),w.cell? ⟨b,o+i*fs.size+j,none⟩=some v/\DataW.trod enc P w 0 (λ_=>true) true n f.type [v]=some y/\Rows.uptoBulk y.1<=Rows.uptoBulk d):=by
 obtain⟨fuel,hf⟩:=h;rcases Deep.open_slice hT hf with⟨hcs,_⟩ | ⟨x,l,c,m,n,D,Pl,hcs,_,hl,hm,hmm,hx,hr⟩
 ·simp[Value.cells]at hcs;obtain⟨rfl,rfl,rfl⟩:=hcs;exact⟨bfx _,bgi _,bgi _,.inl rfl⟩
 simp[Value.cells]at hcs;obtain⟨rfl,rfl,rfl⟩:=hcs;simp only[if_true]at hmm;subst hmm;simp only[Prod.mk.injEq]at hx;have hln:len<=Rows.uptoBulk d:=by
  rw[hx.1];simp only[Rows.uptoBulk];have:=Xn.length_le ((List.range len).map D);simp only[bfz,List.length_range]at this;omega
 refine⟨hl,hm,hln,?_⟩;by_cases hz:len=0
 ·exact .inl hz
 right
 have each:∀i<len,∀(j:Nat) (f:Field),fs[j]? =some f->∃(v:Value) (y:DataW H × List MemPlace) (n:Nat),w.cell? ((x.add (i*fs.size)).add j)=some v/\DataW.trod enc P w 0 (λ_=>true) true n f.type [v]=some y/\
   Rows.uptoBulk y.1<=Rows.uptoBulk d:=by
  intro i hi j f hj;obtain⟨cs,h1,h2⟩:=hr i (by omega)
  rw[ce]at h1;obtain⟨_,hlen,hcell⟩:=World.cells?_some h1;obtain⟨xs,q,_,hxy,_,hxl,OL⟩:=DataW.trod_struct hE h2;obtain⟨ho,hc⟩:=Dn hB hj;have hjl:j<fs.size:=(Array.getElem?_eq_some_iff.1 hj).1;have hjc:j<cs.length:=by omega
  have g:=OL j f hj;rw[ho,hc,List.drop_eq_getElem_cons hjc,List.take_succ_cons,List.take_zero,bfs (show j<xs.length by omega)]at g
  refine⟨cs[j],xs[j],q,by rw[hcell j hjl,bfs hjc],g,?_⟩
  simp only[Prod.mk.injEq]at hxy;have hin:D i∈(List.range len).map D:=List.mem_map.2 ⟨i,List.mem_range.2 hi,rfl⟩;have h3:=Xn.JQ hin;have h4:Rows.uptoBulk xs[j].1<=Rows.uptoBulk (D i):=by
   rw[hxy.1];simp only[Rows.uptoBulk];have:xs[j].1∈xs.map (·.1):=List.mem_map.2 ⟨xs[j],List.getElem_mem _,rfl⟩
   have:=Xn.JQ this;omega
  rw[hx.1];simp only[Rows.uptoBulk];omega
 obtain⟨b,off,spot⟩:=x;have hs:spot=none:=by
  obtain⟨v,_,_,hv,_⟩:=each 0 (by omega) 0 fs[0] (bgm h0)
  have:=World.cell?_spot hv;simpa[Addr.add]using this
 subst hs;refine⟨b,off,rfl,λi hi j f hj=>?_⟩;obtain⟨v,y,q,hv,hy,hk⟩:=each i hi j f hj;rw[addr_add,addr_add]at hv;exact⟨v,y,q,hv,hy,hk⟩
theorem Pk {H:Type} {enc:TypeId × Value->H} {w:World} {v:Value} {y:DataW H × List MemPlace} {n:Nat}(h:DataW.trod enc prog w 0 (λ_=>true) true n 9 [v]=some y):
  ∃k:List (BitVec 8),v=Sv k/\k.length<=Rows.uptoBulk y.1/\(∀m∈y.1.weights prog 9,m<=reachBytes)=(k.length<=reachBytes):=by
 obtain⟨s,hs,hy,hz⟩:=DataW.trod_string underlying9 h;simp only[List.cons.injEq,and_true]at hs;obtain⟨k,hk,hkl⟩:=RG s;have hsl:s.data.toList.length=k.length:=by rw[hkl];exact bgq
 refine⟨k,hs.trans hk,?_,?_⟩
 ·rw[hy];simp only[Rows.uptoBulk];omega
 rw[hy];simp only[DataW.weights,bgd,forall_eq,hsl]
theorem JY {H:Type} {enc:TypeId × Value->H} {w:World} {a:Option Addr} {len cap:Nat} {d:DataW H} {p:List MemPlace}
  (h:DataW.Trod enc prog w 0 (λ_=>true) true 24 (.slice a len cap) d p):
  ∃l:List bN,l.length=len/\gq w a l/\(∀x∈l,x.ok/\x.key.length<=Rows.uptoBulk d)/\len<=Rows.uptoBulk d:=by
 obtain⟨hl,hm,hln,hr⟩:=J2 underlying24 underlying42 (by kernel_rfl) (by kernel_rfl) (by decide) h
 rcases hr with rfl | ⟨b,o,rfl,hr⟩
 ·exact⟨[],rfl,.inl rfl,by simp,bgi _⟩
 have each:∀i<len,∃x:bN,(∀j v,x.cells[j]? =some v->w.cell? ⟨b,o+i*4+j,none⟩=some v)/\x.ok/\x.key.length<=Rows.uptoBulk d:=by
  intro i hi;obtain⟨v0,y0,n0,c0,t0,_⟩:=hr i hi 0 _ rfl;obtain⟨v1,y1,n1,c1,t1,b1⟩:=hr i hi 1 _ rfl;obtain⟨v2,y2,n2,c2,t2,_⟩:=hr i hi 2 _ rfl;obtain⟨v3,y3,n3,c3,t3,_⟩:=hr i hi 3 _ rfl;obtain⟨k,rfl,hk⟩:=open_int' t0;obtain⟨s,rfl,hs,_⟩:=Pk t1;obtain⟨t,rfl,ht⟩:=open_int' t2;obtain⟨v,rfl,hv⟩:=open_int' t3;refine⟨⟨k,s,t,v⟩,λj u hj=>?_,⟨hk,ht,hv⟩,bgn hs b1⟩
  match j,hj with
  | 0,hj=>cases hj;exact c0
  | 1,hj=>cases hj;exact c1
  | 2,hj=>cases hj;exact c2
  | 3,hj=>cases hj;exact c3
  | k+4,hj=>simp[bN.cells]at hj
 classical
 let f:Nat->bN:=λr=>if h:r<len then Classical.choose (each r h)else ⟨0,[],0,0⟩
 have hM:∀r<len,(∀j v,(f r).cells[j]? =some v->w.cell? ⟨b,o+r*4+j,none⟩=some v)/\(f r).ok/\(f r).key.length<=Rows.uptoBulk d:=λr hrl=>by
  simp only[f,dif_pos hrl];exact Classical.choose_spec (each r hrl)
 refine⟨(List.range len).map f,by simp,.inr ⟨b,o,rfl,λi y hy=>?_⟩,λy hy=>?_,hln⟩
 ·rw[bgf]at hy;have hi:i<len:=by
   rcases bg1 i len with hi | hi
   ·exact hi
   rw[bgk (by simpa using hi)]at hy
   cases hy
  rw[List.getElem?_range hi]at hy;simp only[Option.map_some,bf5]at hy;subst hy;exact(hM i hi).1
 obtain⟨r,hrl,rfl⟩:=List.mem_map.1 hy;exact(hM r (List.mem_range.1 hrl)).2
end Go.Proofs.YtjeeghafachebaaGreat
