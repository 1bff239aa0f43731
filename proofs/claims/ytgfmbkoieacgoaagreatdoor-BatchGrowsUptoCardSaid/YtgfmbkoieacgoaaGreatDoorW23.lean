/- 23. -/
import Derived.Test.YtgfmbkoieacgoaaGreatDoorW21
set_option maxRecDepth 100000
set_option maxHeartbeats 8000000
namespace Go.Proofs.YtgfmbkoieacgoaaGreatDoor
open Go Go.RowKit Go.Proofs.Tryz
theorem gK(l m:List bn):bT (l++m)=bT l++bT m:=by simp[bT]
theorem mf(l:List bn)(i:Nat)(h:i<=l.length):bT (l.take i)=(bT l).take (i*8):=by
 have e:bT l=bT (l.take i)++bT (l.drop i):=by rw[<-gK,List.take_append_drop]
 have a:(bT (l.take i)).length=i*8:=by rw[cu,bga,Nat.min_eq_left h]
 rw[e,List.take_left' a]
theorem qy(l:List bn)(i:Nat)(h:i<=l.length):bT (l.drop i)=(bT l).drop (i*8):=by
 have e:bT l=bT (l.take i)++bT (l.drop i):=by rw[<-gK,List.take_append_drop]
 have a:(bT (l.take i)).length=i*8:=by rw[cu,bga,Nat.min_eq_left h]
 rw[e,List.drop_left' a]
theorem FM(w:World) {a g n c:Nat} {l:List bn}(d:dm w a (.slice (some ⟨g,0,none⟩) n c) l)(h:n=l.length) {y:bn} {q:Nat}(k:∀j z,y.cells[j]? =some z->w.cell? ⟨q,j,none⟩=some z)(b:n+1<=c)(ty:TypeId):
  ∃w',(Builtin.append_ #[70,70] ty #[.slice (some ⟨g,0,none⟩) n c,.slice (some ⟨q,0,none⟩) 1 1]).run prog w=.ok (.slice (some ⟨g,0,none⟩) (n+1) c) w'/\
   dm w' a (.slice (some ⟨g,0,none⟩) (n+1) c) (l++[y])/\w.grownBy w' (some g):=by
 subst h;obtain⟨i,m,e,o,p⟩:=info_parts kR;obtain⟨w',r,s,x⟩:=run_append_fits (P:=prog) w a 70 ty 131 i 8 underlying70 m o g l.length c (bT l) d ⟨q,0,none⟩ 1 1 y.cells.toList rfl
  (λj u D=>by rw[addr_add,bgu];exact k j u (by simpa using D)) (λz e=>Array.all_eq_true'.1 (fV y) z (by simpa using e)) b
 refine⟨w',r,?_,x⟩;unfold dm;rw[wV,bft];exact s
theorem GR {k:Array Oper} {b:List Oper} {o:Oper} {a:Act} {Q:Exit->Act->World->Prop} {w:World}(p:o.guard=none)(s x:Operand)
  (r:o.op=.call { callee:=.builtin .append,args:=#[s,x],argTypes:=#[70,70] }) {d g n c:Nat} {l:List bn} (u:a.eval s=.slice (some ⟨g,0,none⟩) n c)
  (m:dm w d (.slice (some ⟨g,0,none⟩) n c) l) (D:n=l.length) (y:bn) (q:Nat) (E:a.eval x=.slice (some ⟨q,0,none⟩) 1 1) (F:∀j z,y.cells[j]? =some z->w.cell? ⟨q,j,none⟩=some z) (e:n+1<=c)
  (h:∀w',dm w' d (.slice (some ⟨g,0,none⟩) (n+1) c) (l++[y])->w.grownBy w' (some g)->wpList prog k Q b (a.put o.dst (.slice (some ⟨g,0,none⟩) (n+1) c)) w'):wpList prog k Q (o::b) a w:=by
 refine wpList_plain p λK I=>?_;obtain⟨w',J,L,M⟩:=FM w m D F e o.type;unfold Oper.wp execOp;simp only[r,resolve,invoke,builtin,Sem.run_bind,Sem.run_pure,Result.andThen_ok,bgb,bgc,bge,u,E,J];exact I _ _ (h w' L M)
theorem DV(w:World)(ty:TypeId)(b o d l:Nat)(a:Addr)(e m k:Nat)(h:List Value)(c:Array Value)(s:w.heap[b]? =some (.cells c 131 (0,0)))
  (u:k=Nat.min e d) (x:h.length=k*8) (n:∀j v,h[j]? =some v->w.cell? (a.add j)=some v) (y:∀v∈h,v.oneCell'=true) (p:o+h.length<=c.size):
  (Builtin.copy_ #[70,70] ty #[.slice (some ⟨b,o,none⟩) d l,.slice (some a) e m]).run prog w=.ok (goInt k) (w.setRow b (c.toList.take o++h++c.toList.drop (o+h.length)).toArray):=by
 have r:=run_loadCells_list (P:=prog) w a h n;have q:=run_storeCells_at prog b o 131 h 0 c w s (by simpa using p) y
 have z:∀w,(sizeOf 131).run prog w=.ok 8 w:=sizeOf131;rw[x]at r;simp[Builtin.copy_,run_underlying underlying70,Builtin.lenOf,Builtin.firstCells,z,<-u,r];simp only[Nat.add_zero]at q;rw[q];simp only[Result.andThen_ok,bgz]
theorem Kv {o:Oper} {a:Act} {w:World} {K:Act->World->Prop} {Q:Exit->Act->World->Prop}(d s:Operand)(u:o.op=.call { callee:=.builtin .copy,args:=#[d,s],argTypes:=#[70,70] })
  (b off c m:Nat) (x:Addr) (e n k:Nat) (p:List Value) (l:Array Value) (y:a.eval d=.slice (some ⟨b,off,none⟩) c m) (z:a.eval s=.slice (some x) e n) (D:w.heap[b]? =some (.cells l 131 (0,0)))
  (E:k=Nat.min e c) (F:p.length=k*8) (q:∀j v,p[j]? =some v->w.cell? (x.add j)=some v) (I:∀v∈p,v.oneCell'=true) (r:off+p.length<=l.size)
  (h:K (a.put o.dst (goInt k)) (w.setRow b (l.toList.take off++p++l.toList.drop (off+p.length)).toArray)):o.wp prog a w K Q:=by
 unfold Oper.wp execOp;simp only[u,resolve,invoke,builtin,Sem.run_bind,Sem.run_pure,Result.andThen_ok,bgb,bgc,bge,y,z,DV w o.type b off c m x e n k p l D E F q I r];exact h
theorem GM {r:Array Oper} {m:List Oper} {o:Oper} {a:Act} {w:World} {Q:Exit->Act->World->Prop}(z:o.guard=none)(d s:Operand)(D:o.op=.call { callee:=.builtin .copy,args:=#[d,s],argTypes:=#[70,70] })
  (b off c n:Nat) (x:Addr) (e p k:Nat) (q:List Value) (l:Array Value) (E:a.eval d=.slice (some ⟨b,off,none⟩) c n) (F:a.eval s=.slice (some x) e p) (I:w.heap[b]? =some (.cells l 131 (0,0)))
  (J:k=Nat.min e c) (K:q.length=k*8) (u:∀j v,q[j]? =some v->w.cell? (x.add j)=some v) (L:∀v∈q,v.oneCell'=true) (y:off+q.length<=l.size)
  (h:wpList prog r Q m (a.put o.dst (goInt k)) (w.setRow b (l.toList.take off++q++l.toList.drop (off+q.length)).toArray)):wpList prog r Q (o::m) a w:=
 wpList_plain z λ_ M=>Kv d s D b off c n x e p k q l E F I J K u L y (M _ _ h)
theorem pI(w:World)(g o n c i:Nat)(h:i<=n)(b:i<c):
  (Instr.slice 70 (.slice (some ⟨g,o,none⟩) n c) (some (.int .i64 (i:Int))) none none).run prog w=.ok (.slice (some ⟨g,o+i*8,none⟩) (n-i) (c-i)) w:=by
 have a:∀w,(sizeOf 131).run prog w=.ok 8 w:=sizeOf131;have e:¬c=i:=by omega
 simp[Instr.slice,run_underlying underlying70,Instr.sliceBounds,run_sliceBound,a,h,addr_add,e]
def VO(g q:Nat)(y:bn)(w:World)(cur X7:Array Value)(k:Nat)(w':World):Prop:=
 cond (Nat.beq k 0) (w'.heap[g]? =some (.cells cur 131 (0,0))) (w'.heap[g]? =some (.cells X7 131 (0,0)))/\dw w' q y/\w.grownBy w' (some g)
theorem Ju(w:World)(o g c i q:Nat)(l:List bn)(y:bn)(hO:dm w o (.slice (some ⟨g,0,none⟩) l.length c) l)(hq:dw w q y)(ab:q≠g)(hi:i<=l.length)(hc:l.length+1<=c)(hn:l.length<=1000000):
  Calls prog 226 #[.slice (some ⟨g,0,none⟩) l.length c,.int .i64 (i:Int),.slice (some ⟨q,0,none⟩) 1 1] w (λe w'=>e=.returned (.slice (some ⟨g,0,none⟩) (l.length+1) c)/\dm w' o (.slice (some ⟨g,0,none⟩) (l.length+1) c) (l.take i++[y]++l.drop i)/\w.grownBy w' (some g)):=by
 obtain⟨n,hN⟩:=Nm (l.length);obtain⟨P,hP⟩:=Nm (λe w'=>e=.returned (.slice (some ⟨g,0,none⟩) (n+1) c)/\dm w' o (.slice (some ⟨g,0,none⟩) (n+1) c) (l.take i++[y]++l.drop i)/\w.grownBy w' (some g):Ending->World->Prop);rw[<-hN]at hO hi hc hn ⊢;rw[<-hP];have XY:Hid (∀w',dm w' o (.slice (some ⟨g,0,none⟩) (n+1) c) (l.take i++[y]++l.drop i)->w.grownBy w' (some g)->P (.returned (.slice (some ⟨g,0,none⟩) (n+1) c)) w'):=Lh (λw' h1 h2=>by rw[hP];exact⟨rfl,h1,h2⟩)
 have S:∀w',(Instr.slice 70 (.slice (some ⟨g,0,none⟩) n c) (some (.int .i64 (i:Int))) none none).run prog w'=.ok (.slice (some ⟨g,i*8,none⟩) (n-i) (c-i)) w':=λw'=>by
  have h:=pI w' g 0 n c i hi (by omega)
  rwa [bgu]at h
 have s:=Lh (bfy hO (bfy hN hq));clear hP hN hO hq;have ag:((1:Int)==0)=false:=rfl;by_cases Y:i=n
 ·subst Y;have e1:((i:Int)==(i:Int))=true:=by simp
  have HU:Hid (∀j z,y.cells[j]? =some z->w.cell? ⟨q,j,none⟩=some z):=Lh (λj z hz=>s.out.2.2.cell j hz);go_enter func226,ntmps226;go_upto_region 7 with fail;refine bg4 ?_
  iterate 6 go_step
  refine GR rfl (.tmp 23) (.tmp 24) rfl rfl s.out.1 s.out.2.1 y q rfl HU.out hc ?_;intro w' k1 k2;have HZ:Hid (P (.returned (.slice (some ⟨g,0,none⟩) (i+1) c)) w'):=Lh (XY.out w' (by rw[s.out.2.1,bgs,List.drop_length,bg2,<-s.out.2.1];exact k1) k2)
  clear k1 k2 S;go_wp2_with fail;exact HZ.out
 have I:i<n:=by omega
 have e1:((i:Int)==(n:Int))=false:=by simpa using λh:(i:Int)=(n:Int)=>Y (by omega)
 obtain⟨b,N,O,u,x,Q⟩:∃b:Array Value,w.heap[g]? =some (.cells b 131 (0,0))/\b.size=c*8/\b.toList.take (n*8)=bT l/\c<=maxLen/\o<=g:=by
  have h:=s.out.1;rcases h.2 with⟨h',_⟩ | ⟨g',af,b,h',hb,hg,_,x,m,J⟩
  ·simp at h'
  simp only[Value.slice.injEq,bf5,Addr.mk.injEq,and_true]at h';obtain⟨rfl,_,rfl⟩:=h';rw[<-s.out.2.1]at J;exact⟨b,hg,m,J,x,hb⟩
 have hL:(bT l).length=n*8:=by rw[cu,s.out.2.1]
 obtain⟨Z,m⟩:=Nm ((bT l).drop (i*8));have D:Z.length=(n-i)*8:=by rw[m,bgx,hL];omega
 obtain⟨E,p⟩:=Nm ((b.toList.take ((i+1)*8)++Z++b.toList.drop ((i+1)*8+Z.length)).toArray);have aa:E.size=c*8:=by
  rw[p];simp only[List.size_toArray,bft,bga,bgx,bgq];omega
 have HC:=Lh (bfy N (bfy O (bfy u (bfy x (bfy Q (bfy m (bfy D (bfy p aa))))))));have ac:∀lb cb,(callFunc 227 #[.slice (some ⟨q,0,none⟩) 1 1,.slice (some ⟨g,(i+1)*8,none⟩) lb cb]).run prog w=.ok (.value (.bool false)) w:=λlb cb=>by
  rw[run_callFunc_extern func227 (by kernel_rfl) (by kernel_rfl) (by kernel_rfl) (e:=Extern.SlicesOverlaps.overlaps #[70,70] #[4]) (by kernel_rfl),
   Lib.run_overlaps_apart w 70 4 131 underlying70 8 sizeOf131 ⟨q,0,none⟩ ⟨g,(i+1)*8,none⟩ 1 1 lb cb ab 131 131 8 b.size
    (by have h:=s.out.2.2;unfold dw at h;simp[World.shape?,h,bn.cells]) (by simp[World.shape?,N]) (by omega) (s.out.2.2.fro 0) (s.out.2.2.fro 8)]
  rfl
 have ZK:∀w',(Instr.slice 70 (.slice (some ⟨g,0,none⟩) n c) none (some (.int .i64 ((n:Int)+1))) none).run prog w'=.ok (.slice (some ⟨g,0,none⟩) (n+1) c) w':=λw'=>by
  have h:=mM w' (some ⟨g,0,none⟩) n c (n+1) (by omega)
  rwa [show((n+1:Nat):Int)=(n:Int)+1 by omega]at h
 have aA:∀w',(Instr.slice 70 (.slice (some ⟨g,0,none⟩) (n+1) c) (some (.int .i64 ((i:Int)+1))) none none).run prog w'=.ok (.slice (some ⟨g,(i+1)*8,none⟩) (n-i) (c-(i+1))) w':=λw'=>by
  have h:=pI w' g 0 (n+1) c (i+1) (by omega) (by omega)
  rwa [show((i+1:Nat):Int)=(i:Int)+1 by omega,bgu,show n+1-(i+1)=n-i by omega]at h
 have az:∀w',(Instr.slice 70 (.slice (some ⟨g,0,none⟩) (n+1) c) (some (.int .i64 (i:Int))) none none).run prog w'=.ok (.slice (some ⟨g,i*8,none⟩) (n+1-i) (c-i)) w':=λw'=>by
  have h:=pI w' g 0 (n+1) c i (by omega) (by omega)
  rwa [bgu]at h
 have ah:¬((c:Int)<(n:Int)+1):=by omega
 have HS:=Lh (bfy aA az);have ad:Hid (VO g q y w b E 0 w.drew):=Lh ⟨N,s.out.2.2,⟨rfl,rfl,rfl,bfx _,λ_ _ _=>rfl⟩⟩;have Yv:Hid (i<n/\n+1<=c/\n<=1000000):=Lh ⟨I,hc,hn⟩;clear N O u x Q m D p aa hL Y;go_enter func226,ntmps226;go_wp2_with(simp only[ac]);refine wp_region_skip_frame (λi=>([]:List Nat).contains i) (by kernel_rfl) (NoF [none,none,none,some 0]) [8] (V4 ((Value.slice (some ⟨g,0,none⟩) (n+1) c)::(Value.int .i64 (i:Int))::(Value.int .i64 (1:Int))::(Value.int .i64 ((i:Int)+1))::(Value.slice (some ⟨g,(i+1)*8,none⟩) (n-i) (c-(i+1)))::(Value.slice (some ⟨g,0,none⟩) (n+1) c)::(Value.int .i64 (i:Int))::(Value.slice (some ⟨g,i*8,none⟩) (n+1-i) (c-i))::goInt ((n-i:Nat):Int)::([]:List Value)) 99 (λ_ _ _=>True) 98 (λ_ _ _=>True) 97 (λ_ _ _=>True) 96 (λ_ _ _=>True)) (VO g q y w b E) (λw w'=>Bw w w') (wP _ (λ_ _ _ _ _ h=>h) (λ_ _ _ _ _ h=>h) (λ_ _ _ _ _ h=>h) (λ_ _ _ _ _ h=>h)) (by kernel_rfl) (by kernel_rfl) (by kernel_rfl) ad.out (λ_=>⟨rfl,rfl,rfl,rfl,rfl,rfl,rfl,rfl,rfl,trivial⟩) (λ_ h=>by simp at h) ?_ ?_
 ·refine ⟨?_,?_,?_,?_,?_,?_,?_,?_,?_,trivial⟩<;>(first|(intro _ _ a w' hG U M K hK;guard_hyp w':World)|intro _ a w' hG U M K hK)<;>replace U:=Lh U<;>replace M:=Lh M
  have q0:=FoA U 0 (.slice (some ⟨g,0,none⟩) (n+1) c);rotate_left;have q1:=FiA U 1 i;rotate_left;have q7:=FiA U 7 1;rotate_left;have ai:=Pi a 70 i M.out.1;have aj:=Pi a 71 1 M.out.2.1;have I:=Yv.out;rotate_left;have ak:=Ep a 69 (.slice (some ⟨g,0,none⟩) (n+1) c) M.out.1;have al:=Ep a 72 (.int .i64 ((i:Int)+1)) M.out.2.1;have ae:=HS.out.1;rotate_left;have q0:=FoA U 0 (.slice (some ⟨g,0,none⟩) (n+1) c);rotate_left;have q1:=FiA U 1 i;rotate_left;have am:=Ep a 74 (.slice (some ⟨g,0,none⟩) (n+1) c) M.out.1;have an:=Pi a 75 i M.out.2.1;have ae:=HS.out.2;rotate_left
  ·obtain ⟨p0,p1,_⟩:=M.out;have UW:=(show a.eval (.tmp 73)=.slice (some ⟨g,(i+1)*8,none⟩) (n-i) (c-(i+1))from p0);have UX:=(show a.eval (.tmp 76)=.slice (some ⟨g,i*8,none⟩) (n+1-i) (c-i)from p1);clear p0 p1;obtain⟨N,hq,d⟩:=(show(w'.heap[g]? =some (.cells b 131 (0,0))/\dw w' q y/\w.grownBy w' (some g))from hG);obtain⟨_,O,u,_,_,m,D,p,_⟩:=HC.out;have I:=Yv.out;refine Kv (.tmp 73) (.tmp 76) rfl g ((i+1)*8) (n-i) (c-(i+1)) ⟨g,i*8,none⟩ (n+1-i) (c-i) (n-i) Z b UW UX N (Nat.min_eq_right (by omega)).symm D (λj v F=>?_) (λv hv=>?_) (by omega) ?_
   ·rw[addr_add,cell_of_row w' g _ b _ _ N];rw[m,List.getElem?_drop,<-u,List.getElem?_take]at F
    split at F
    ·simpa using F
    cases F
   ·rw[m]at hv;exact lI l v (List.mem_of_mem_drop hv)
   rw[<-p];have k:=bD w' g E;exact hK _ _ rfl ⟨setRow_heap w' g _ _ _ _ N,hq.grown k (by simp;exact ab),⟨k.os.trans d.os,k.tape.trans d.tape,k.output.trans d.output,bgn d.size k.size,λj F L=>(k.block j (Nat.lt_of_lt_of_le F d.size) L).trans (d.block j F L)⟩⟩ (jE (.inr λ_ h=>h) (.inr λ_ h=>h) (.inr λ_ h=>h) (.inr λ_ h=>h))
  all_goals(go_step;exact hK _ _ rfl hG Br)
 intro vs w2 hG r hV
 match vs,r,hV with
 | [v0,v1,v2,v3,v4,v5,v6,v7,v8],_,hV=>
  clear hV;simp only[putsL,bf7,bf1];simp only[Act.put,bfw,bfu,bfv];have H2:Hid (w2.heap[g]? =some (.cells E 131 (0,0))/\dw w2 q y/\w.grownBy w2 (some g)):=Lh hG;clear hG aA ZK ac;go_upto_region 16 with fail;refine bg4 ?_
  iterate 12 go_step
  refine GM rfl (.tmp 80) (.tmp 81) rfl g (i*8) (n+1-i) (c-i) ⟨q,0,none⟩ 1 1 1 y.cells.toList E rfl rfl H2.out.1 (Nat.min_eq_left (by have:=Yv.out;omega)).symm rfl (λj v F=>by rw[addr_add,bgu];exact H2.out.2.1.cell j (by simpa using F)) (λv hv=>Array.all_eq_true'.1 (fV y) v (by simpa using hv)) (by have h3:y.cells.toList.length=8:=rfl;have h:=HC.out.2.2.2.2.2.2.2.2;omega) ?_
  obtain⟨wz,R⟩:=Nm (w2.setRow g (E.toList.take (i*8)++y.cells.toList++E.toList.drop (i*8+y.cells.toList.length)).toArray);have HZ:Hid (P (.returned (.slice (some ⟨g,0,none⟩) (n+1) c)) wz):=by
   obtain⟨N,O,u,x,Q,m,D,p,aa⟩:=HC.out;have I:=Yv.out;have hN:=s.out.2.1;have hL:(bT l).length=n*8:=by rw[cu,hN]
   have h3:y.cells.toList.length=8:=rfl;have k:=bD w2 g (E.toList.take (i*8)++y.cells.toList++E.toList.drop (i*8+y.cells.toList.length)).toArray;rw[<-R]at k;have d:=H2.out.2.2;refine Lh (XY.out wz ?_ ⟨k.os.trans d.os,k.tape.trans d.tape,k.output.trans d.output,bgn d.size k.size,λj F L=>(k.block j (Nat.lt_of_lt_of_le F d.size) L).trans (d.block j F L)⟩);have r:(l.take i++[y]++l.drop i).length=n+1:=by simp;omega
   unfold dm;rw[r];refine⟨by rw[cu,r],.inr ⟨g,c,_,rfl,Q,by rw[R];exact setRow_heap w2 g _ _ _ _ H2.out.1,I.2.1,x,?_,?_⟩⟩
   ·simp only[List.size_toArray,bft,bga,bgx,bgq];have h4:y.cells.size=8:=rfl;omega
   have e1:bT (l.take i++[y]++l.drop i)=(bT l).take (i*8)++y.cells.toList++Z:=by
    rw[gK,gK,mf l i (by omega),qy l i (by omega),m]
    simp[bT]
   have e2:E.toList.take (i*8)=(bT l).take (i*8):=by
    rw[p,bgz,List.take_append_of_le_length (by rw[bga,bgq];omega),List.take_take,<-u,List.take_take]
    congr 1
    omega
   have e3:E.toList.drop (i*8+y.cells.toList.length)=Z++b.toList.drop ((i+1)*8+Z.length):=by
    rw[p,bgz,h3];exact List.drop_left' (by rw[bga,bgq];omega)
   rw[e1,e2,e3];exact J9 _ (by rw[bga,hL,h3,D];omega)
  rw[<-R];clear R az S;go_wp2_with fail;exact HZ.out
theorem qY(m:Nat):(Builtin.zeroCells (Value.agg #[.string ⟨#[]⟩,.int .i64 0,.int .i64 0,.int .i64 0,.int .i64 0,.slice none 0 0,.complex .f64 0 0,.int .i64 0]).cells m).toList=bT (List.replicate m dh):=by
 have d:dh.cells=#[.string ⟨#[]⟩,.int .i64 0,.int .i64 0,.int .i64 0,.int .i64 0,.slice none 0 0,.complex .f64 0 0,.int .i64 0]:=rfl;apply List.ext_getElem?;intro j;show(Builtin.zeroCells #[.string ⟨#[]⟩,.int .i64 0,.int .i64 0,.int .i64 0,.int .i64 0,.slice none 0 0,.complex .f64 0 0,.int .i64 0] m).toList[j]? =_;rw[<-d];have b:dh.cells.size=8:=rfl;by_cases e:j<m*8
 ·have h:j % 8<8:=Nat.mod_lt _ (by decide)
  have k:(List.replicate m dh)[j / 8]? =some dh:=by rw[List.getElem?_replicate,if_pos (by omega)]
  obtain⟨v,c⟩:∃v,dh.cells[j % 8]? =some v:=⟨_,bgm (by rw[b];exact h)⟩
  have a:=ni _ (j / 8) _ (j % 8) v k c;rw[show j / 8*8+j % 8=j by omega]at a
  rw[a,Array.getElem?_toList];unfold Builtin.zeroCells;rw[b,Array.getElem?_map,bgm (by simpa using e)]
  simp only[Array.getElem_range,Option.map_some];rw[getElem!_def,c]
 have a:(bT (List.replicate m dh))[j]? =none:=by
  rw[List.getElem?_eq_none_iff,cu,List.length_replicate];omega
 rw[a,List.getElem?_eq_none_iff,bgq,size_zeroCells,b];omega
theorem xH(w:World) {g n c m:Nat} {a:List bn}(ty:TypeId)(d:a.length=n)(F:∀j u,(bT a)[j]? =some u->w.cell? ⟨g,j,none⟩=some u)(I:c<n+m)(Q:0<m)(J:n+m<=1000000):
  ∃e w',(Builtin.append_ #[70,3] ty #[.slice (some ⟨g,0,none⟩) n c,.int .i64 (m:Int)]).run prog w=.ok (.slice (some ⟨w.heap.size,0,none⟩) (n+m) e) w'/\dm w' w.heap.size (.slice (some ⟨w.heap.size,0,none⟩) (n+m) e) (a++List.replicate m dh)/\w.grownBy w' none:=by
 obtain⟨i,K,L,D,h⟩:=info_parts kR;have M:¬(n+m<=c):=by omega
 have l:¬(9223372036854775807<((n:Int)+(m:Int))):=by omega
 have E:Builtin.nextslicecap (n+m) c*i.bytes<=281474976710656:=growslice_fits I (by rw[h];omega)
 have o:¬(281474976710656<Builtin.nextslicecap (n+m) c*i.bytes):=by omega
 have p:IntKind.i64.wrap (m:Int)=(m:Int):=by
  simp[IntKind.wrap,IntKind.bits,IntKind.signed];omega
 have q:¬((m:Int)<0):=by omega
 have r:¬((281474976710656:Int)<(m:Int)*(i.bytes:Int)):=by rw[h];omega
 have s:¬(m*i.size=0):=by rw[D];omega
 have x:=run_firstCells_some (P:=prog) w.drew i.size n ⟨g,0,none⟩ n c (bT a) (by rw[cu,d,D]) (by simpa[addr_add]using F)
 have N:(Builtin.append_ #[70,3] ty #[.slice (some ⟨g,0,none⟩) n c,.int .i64 (m:Int)]).run prog w=.ok (.slice (some ⟨w.heap.size,0,none⟩) (n+m) (grownCap w (n+m) c 131))
    (w.drew.alloc (.cells ((bT a).toArray++Builtin.zeroCells (Value.agg #[.string ⟨#[]⟩,.int .i64 0,.int .i64 0,.int .i64 0,.int .i64 0,.slice none 0 0,.complex .f64 0 0,.int .i64 0]).cells m++Builtin.zeroCells (Value.agg #[.string ⟨#[]⟩,.int .i64 0,.int .i64 0,.int .i64 0,.int .i64 0,.slice none 0 0,.complex .f64 0 0,.int .i64 0]).cells (grownCap w (n+m) c 131-(n+m))) 131)):=by
  simp[Builtin.append_,run_underlying underlying70,run_underlying underlying3,sizeOf,typeInfo,zeroValue,K,L,Builtin.lenOf,asInt,asIntOf,p,q,r,s,M,l,o,Question.forced,x,newRow,grownCap]
 have y:=grownCap_ge w (n+m) c 131;have z:grownCap w (n+m) c 131<=maxLen:=grownCap_le_maxLen w (n+m) c 131 (by unfold maxLen;omega)
 have b:(a++List.replicate m dh).length=n+m:=by rw[bft,List.length_replicate,d]
 refine⟨_,_,N,?_,⟨rfl,rfl,rfl,by simp,λk O _=>heap_alloc_old w.drew _ O⟩⟩
 unfold dm;rw[b];refine⟨by rw[cu,b],.inr ⟨w.heap.size,_,_,rfl,bfx _,bg5 w.drew _,y,z,?_,?_⟩⟩
 ·simp only[Array.size_append,List.size_toArray,size_zeroCells,cu,d];show n*8+m*8+(grownCap w (n+m) c 131-(n+m))*8=_;omega
 simp only[Array.toList_append,qY,bgz];rw[<-bgz,<-gK];exact List.take_left' (by rw[cu,b])
theorem dm.take {w:World} {a g n c i:Nat} {l:List bn}(h:dm w a (.slice (some ⟨g,0,none⟩) n c) l)(p:n=l.length)(q:i<=n):dm w a (.slice (some ⟨g,0,none⟩) i c) (l.take i):=by
 subst p;rcases h.2 with⟨e,_⟩ | ⟨x,o,j,e,r,s,u,k,m,d⟩
 ·simp at e
 simp only[Value.slice.injEq,bf5,Addr.mk.injEq,and_true,true_and]at e;obtain⟨rfl,rfl⟩:=e;have b:(l.take i).length=i:=by rw[bga];omega
 unfold dm;rw[b];refine⟨by rw[cu,b],.inr ⟨g,c,j,rfl,r,s,by omega,k,m,?_⟩⟩
 rw[mf l i q,<-d,List.take_take]
 congr 1
 omega
theorem dm.row {w:World} {b g n c:Nat} {l:List bn}(h:dm w b (.slice (some ⟨g,0,none⟩) n c) l)(p:n=l.length):∃a:Array Value,w.heap[g]? =some (.cells a 131 (0,0))/\a.size=c*8/\a.toList.take (n*8)=bT l/\c<=maxLen/\b<=g/\n<=c:=by
 subst p;rcases h.2 with⟨e,_⟩ | ⟨s,o,a,e,q,r,j,k,m,d⟩
 ·simp at e
 simp only[Value.slice.injEq,bf5,Addr.mk.injEq,and_true,true_and]at e;obtain⟨rfl,rfl⟩:=e;exact⟨a,r,m,d,k,q,j⟩
theorem dm.yg {w:World} {a g n c i:Nat} {l:List bn}(h:dm w a (.slice (some ⟨g,0,none⟩) n c) l)(k:n=l.length)(m:i<=n):∀j v,(bT (l.drop i))[j]? =some v->w.cell? ((⟨g,i*8,none⟩:Addr).add j)=some v:=by
 intro j v b;have e:=h;subst k;unfold dm at e;rw[qy l i m,List.getElem?_drop]at b;have d:=(List.getElem?_eq_some_iff.1 b).1;rw[cu]at d;rw[addr_add,World.ownsRow.cellAt e _ (by omega)]
 exact b
theorem Pq {L M:List bn} {i k n:Nat} {a:Array Value}(e:n=L.length)(h:k=M.length)(j:i+k<=n)(c:a.toList.take (n*8)=bT L):
  (a.toList.take (i*8)++bT M++a.toList.drop (i*8+(bT M).length)).take (n*8)=bT (L.take i++M++L.drop (i+k)):=by
 have d:(bT M).length=k*8:=by rw[cu,h]
 have l:a.toList.take (i*8)=(bT L).take (i*8):=by
  rw[<-c,List.take_take]
  congr 1
  omega
 have m:(a.toList.drop (i*8+k*8)).take (n*8-(i*8+k*8))=(bT L).drop ((i+k)*8):=by
  rw[<-c,List.drop_take]
  congr 1
  ·omega
  congr 1
  omega
 have b:((bT L).take (i*8)++bT M).length=i*8+k*8:=by
  rw[bft,bga,d,cu,<-e];omega
 rw[d,l,List.take_append,List.take_of_length_le (by omega),b,m,gK,gK,mf L i (by omega),qy L (i+k) (by omega)]
theorem C9(w:World)(ty:TypeId) {d g n c i k:Nat} {L M:List bn}(E:dm w d (.slice (some ⟨g,0,none⟩) n c) L)(u:n=L.length)(y:k=M.length)(p:i+k<=n)(a e:Nat)(x:Addr)(b h:Nat)(m:k=Nat.min b a)
  (o:∀j v,(bT M)[j]? =some v->w.cell? (x.add j)=some v):
  ∃w',(Builtin.copy_ #[70,70] ty #[.slice (some ⟨g,i*8,none⟩) a e,.slice (some x) b h]).run prog w=.ok (goInt k) w'/\dm w' d (.slice (some ⟨g,0,none⟩) n c) (L.take i++M++L.drop (i+k))/\w.grownBy w' (some g):=by
 obtain⟨q,z,F,I,r,J,s⟩:=E.row u;have D:(bT M).length=k*8:=by rw[cu,y]
 refine⟨_,DV w ty g (i*8) a e x b h k (bT M) q z m D o (lI M) (by omega),?_,bD _ _ _⟩
 have l:(L.take i++M++L.drop (i+k)).length=n:=by
  rw[bft,bft,bga,bgx];omega
 unfold dm;rw[l];refine⟨by rw[cu,l],.inr ⟨g,c,_,rfl,J,setRow_heap w g _ _ _ _ z,s,r,?_,?_⟩⟩
 ·simp only[List.size_toArray,bft,bga,bgx,bgq,D];omega
 exact Pq u y p I
theorem qU {o:Oper} {a:Act} {w:World} {K:Act->World->Prop} {Q:Exit->Act->World->Prop}(d s:Operand)(y:o.op=.call { callee:=.builtin .copy,args:=#[d,s],argTypes:=#[70,70] })
  {l g n c i k:Nat} {L M:List bn} (z:dm w l (.slice (some ⟨g,0,none⟩) n c) L) (D:n=L.length) (E:k=M.length) (u:i+k<=n) (b m:Nat) (x:Addr) (e p:Nat) (q:k=Nat.min e b)
  (r:∀j v,(bT M)[j]? =some v->w.cell? (x.add j)=some v) (F:a.eval d=.slice (some ⟨g,i*8,none⟩) b m) (I:a.eval s=.slice (some x) e p)
  (h:∀w',dm w' l (.slice (some ⟨g,0,none⟩) n c) (L.take i++M++L.drop (i+k))->w.grownBy w' (some g)->K (a.put o.dst (goInt k)) w'):o.wp prog a w K Q:=by
 obtain⟨w',J,N,O⟩:=C9 w o.type z D E u b m x e p q r;unfold Oper.wp execOp;simp only[y,resolve,invoke,builtin,Sem.run_bind,Sem.run_pure,Result.andThen_ok,bgb,bgc,bge,F,I,J];exact h w' N O
theorem qi {r:Array Oper} {l:List Oper} {o:Oper} {a:Act} {w:World} {Q:Exit->Act->World->Prop}(D:o.guard=none)(d s:Operand)(F:o.op=.call { callee:=.builtin .copy,args:=#[d,s],argTypes:=#[70,70] })
  {m g n c i k:Nat} {L M:List bn} (I:dm w m (.slice (some ⟨g,0,none⟩) n c) L) (J:n=L.length) (K:k=M.length) (E:i+k<=n) (b p:Nat) (x:Addr) (e q:Nat) (u:k=Nat.min e b)
  (y:∀j v,(bT M)[j]? =some v->w.cell? (x.add j)=some v) (N:a.eval d=.slice (some ⟨g,i*8,none⟩) b p) (O:a.eval s=.slice (some x) e q)
  (h:∀z,dm z m (.slice (some ⟨g,0,none⟩) n c) (L.take i++M++L.drop (i+k))->w.grownBy z (some g)->wpList prog r Q l (a.put o.dst (goInt k)) z):wpList prog r Q (o::l) a w:=
 wpList_plain D λ_ R=>qU d s F I J K E b p x e q u y N O (λz S U=>R _ _ (h z S U))
theorem jc(w:World)(g n c i:Nat)(h:i<=n):
  (Instr.slice 70 (.slice (some ⟨g,0,none⟩) n c) (some (.int .i64 (i:Int))) none none).run prog w=.ok (.slice (some ⟨g,(if c=i then 0 else i*8),none⟩) (n-i) (c-i)) w:=by
 have a:∀w,(sizeOf 131).run prog w=.ok 8 w:=sizeOf131;by_cases e:c=i
 ·subst e;simp[Instr.slice,run_underlying underlying70,Instr.sliceBounds,run_sliceBound,a,h]
 simp[Instr.slice,run_underlying underlying70,Instr.sliceBounds,run_sliceBound,a,h,addr_add,e]
theorem BX(w:World)(ty:TypeId) {b g n c i:Nat} {L:List bn}(o:dm w b (.slice (some ⟨g,0,none⟩) n c) L)(p:n=L.length)(r:i<=n):
  ∃w',(Builtin.clear_ #[70] ty #[.slice (some ⟨g,(if c=i then 0 else i*8),none⟩) (n-i) (c-i)]).run prog w=.ok (.tuple #[]) w'/\dm w' b (.slice (some ⟨g,0,none⟩) i c) (L.take i)/\w.grownBy w' (some g):=by
 obtain⟨a,q,s,u,k,x,y⟩:=o.row p;by_cases e:n-i=0
 ·rw[e];refine⟨w,by simp[Builtin.clear_,run_underlying underlying70],o.take p r,⟨rfl,rfl,rfl,bfx _,λ_ _ _=>rfl⟩⟩
 obtain⟨m,z⟩:∃m,n - i=m+1:=⟨n - i - 1,by omega⟩
 have D:¬c=i:=by omega
 rw[if_neg D,z];obtain⟨inf,l,E,I,F⟩:=info_parts kR;have h:=run_storeCells_at prog g (i*8) 131 (bT (List.replicate (m+1) dh)) 0 a w q (by rw[cu,List.length_replicate];omega) (lI _)
 have j:(Builtin.clear_ #[70] ty #[.slice (some ⟨g,i*8,none⟩) (m+1) (c-i)]).run prog w=.ok (.tuple #[]) (w.setRow g (a.toList.take (i*8)++bT (List.replicate (m+1) dh)++a.toList.drop (i*8+(bT (List.replicate (m+1) dh)).length)).toArray):=by
  simp only[Nat.add_zero]at h;simp[Builtin.clear_,zeroValue,typeInfo,run_underlying underlying70,l,E,qY,h]
 refine⟨_,j,?_,bD _ _ _⟩;have d:(L.take i).length=i:=by rw[bga];omega
 unfold dm;rw[d];refine⟨by rw[cu,d],.inr ⟨g,c,_,rfl,x,setRow_heap w g _ _ _ _ q,by omega,k,?_,?_⟩⟩
 ·simp only[List.size_toArray,bft,bga,bgx,bgq,cu,List.length_replicate];omega
 show List.take (i*8) (a.toList.take (i*8)++_++_)=_;rw[bgz,List.take_append_of_le_length (by rw[bga,bgq];omega),List.take_take,Nat.min_self,mf L i (by omega),<-u,List.take_take,Nat.min_eq_left (show i*8<=n*8 by omega)]
theorem pz {e:Array Oper} {b:List Oper} {o:Oper} {a:Act} {w:World} {Q:Exit->Act->World->Prop}(j:o.guard=none)(s:Operand)(k:o.op=.call { callee:=.builtin .clear,args:=#[s],argTypes:=#[70] })
  {d g n c i:Nat} {L:List bn} (l:dm w d (.slice (some ⟨g,0,none⟩) n c) L) (m:n=L.length) (p:i<=n) (q:a.eval s=.slice (some ⟨g,(if c=i then 0 else i*8),none⟩) (n-i) (c-i))
  (h:∀w',dm w' d (.slice (some ⟨g,0,none⟩) i c) (L.take i)->w.grownBy w' (some g)->wpList prog e Q b (a.put o.dst (.tuple #[])) w'):wpList prog e Q (o::b) a w:=by
 refine wpList_plain j λK r=>?_;obtain⟨w',u,x,y⟩:=BX w o.type l m p;unfold Oper.wp execOp;simp only[k,resolve,invoke,builtin,Sem.run_bind,Sem.run_pure,Result.andThen_ok,bgb,bgc,bge,q,u];exact r _ _ (h w' x y)
theorem Df {e:Array Oper} {d:List Oper} {o:Oper} {a:Act} {w:World} {Q:Exit->Act->World->Prop}(l:o.guard=none)(s x:Operand)(r:o.op=.call { callee:=.builtin .append,args:=#[s,x],argTypes:=#[70,3] })
  {k g n c m:Nat} {L:List bn} (y:dm w k (.slice (some ⟨g,0,none⟩) n c) L) (q:n=L.length) (z:c<n+m) (D:0<m) (p:n+m<=1000000) (E:a.eval s=.slice (some ⟨g,0,none⟩) n c) (M:Int) (F:a.eval x=.int .i64 M) (I:M=(m:Int))
  (h:∀b w',dm w' w.heap.size (.slice (some ⟨w.heap.size,0,none⟩) (n+m) b) (L++List.replicate m dh)->w.grownBy w' none->wpList prog e Q d (a.put o.dst (.slice (some ⟨w.heap.size,0,none⟩) (n+m) b)) w'):wpList prog e Q (o::d) a w:=by
 subst I;refine wpList_plain l λK J=>?_;obtain⟨b,w',N,O,R⟩:=xH w (c:=c) (m:=m) o.type q.symm (λj u S=>by have:=y.yg q (bgi n) j u (by simpa using S);simpa[addr_add]using this) z D p
 unfold Oper.wp execOp;simp only[r,resolve,invoke,builtin,Sem.run_bind,Sem.run_pure,Result.andThen_ok,bgb,bgc,bge,E,F,N];exact J _ _ (h b w' O R)
def lM(w:World)(base:Nat)(v:Value)(L:List bn)(e:Ending)(w':World):Prop:=∃v',e=.returned v'/\dm w' base v' L/\w.grownBy w' v.ownBlock/\(v'.ownBlock=v.ownBlock∨v'.ownBlock=some w.heap.size)
theorem BU(w:World)(ty:TypeId) {a g n c i:Nat} {L:List bn}(E:dm w a (.slice (some ⟨g,0,none⟩) n c) L)(p:n=L.length)(F:i+1<=n) {y:bn} {q:Nat}(I:∀j z,y.cells[j]? =some z->w.cell? ⟨q,j,none⟩=some z):
  ∃w',(Builtin.append_ #[70,70] ty #[.slice (some ⟨g,0,none⟩) i c,.slice (some ⟨q,0,none⟩) 1 1]).run prog w=.ok (.slice (some ⟨g,0,none⟩) (i+1) c) w'/\dm w' a (.slice (some ⟨g,0,none⟩) n c) (L.take i++[y]++L.drop (i+1))/\w.grownBy w' (some g):=by
 obtain⟨d,r,J,K,e,N,h⟩:=E.row p;obtain⟨inf,l,s,m,O⟩:=info_parts kR;have o:y.cells.toList.length=8:=rfl;have x:=run_append_room (P:=prog) w 70 ty 131 inf underlying70 l g i c d r ⟨q,0,none⟩ 1 1 y.cells.toList (by rw[o,m]) (λj u Q=>by rw[addr_add,bgu];exact I j u (by simpa using Q)) (λz s=>Array.all_eq_true'.1 (fV y) z (by simpa using s)) (by omega) (by rw[o,m];omega)
 rw[m]at x;refine⟨_,x,?_,bD _ _ _⟩;have R:bT [y]=y.cells.toList:=by simp[bT]
 have b:(L.take i++[y]++L.drop (i+1)).length=n:=by
  rw[bft,bft,bga,bgx,bg0];omega
 have D:=Pq (M:=[y]) p rfl (i:=i) (k:=1) F K;rw[R]at D;unfold dm;rw[b];refine⟨by rw[cu,b],.inr ⟨g,c,_,rfl,N,setRow_heap w g _ _ _ _ r,h,e,?_,D⟩⟩
 simp only[List.size_toArray,bft,bga,bgx,bgq,o];omega
theorem xR {e:Array Oper} {b:List Oper} {o:Oper} {a:Act} {w:World} {Q:Exit->Act->World->Prop}(k:o.guard=none)(s x:Operand)(l:o.op=.call { callee:=.builtin .append,args:=#[s,x],argTypes:=#[70,70] })
  {d g n c i:Nat} {L:List bn} (m:dm w d (.slice (some ⟨g,0,none⟩) n c) L) (p:n=L.length) (r:i+1<=n) {y:bn} {q:Nat} (u:∀j z,y.cells[j]? =some z->w.cell? ⟨q,j,none⟩=some z) (D:a.eval s=.slice (some ⟨g,0,none⟩) i c) (E:a.eval x=.slice (some ⟨q,0,none⟩) 1 1)
  (h:∀w',dm w' d (.slice (some ⟨g,0,none⟩) n c) (L.take i++[y]++L.drop (i+1))->w.grownBy w' (some g)->wpList prog e Q b (a.put o.dst (.slice (some ⟨g,0,none⟩) (i+1) c)) w'):wpList prog e Q (o::b) a w:=by
 refine wpList_plain k λK F=>?_;obtain⟨w',I,J,M⟩:=BU w o.type m p r u;unfold Oper.wp execOp;simp only[l,resolve,invoke,builtin,Sem.run_bind,Sem.run_pure,Result.andThen_ok,bgb,bgc,bge,D,E,I];exact F _ _ (h w' J M)
theorem Bh {w w':World}(h:w.grownBy w' none)(r:Option Nat):w.grownBy w' r:=⟨h.os,h.tape,h.output,h.size,λj a _=>h.block j a (by simp)⟩
theorem Dy {w w' a:World} {g:Nat}(h:w.grownBy w' none)(b:w'.grownBy a (some g))(e:w.heap.size<=g):w.grownBy a none:=
 ⟨b.os.trans h.os,b.tape.trans h.tape,b.output.trans h.output,bgn h.size b.size,λj d c=>(b.block j (Nat.lt_of_lt_of_le d h.size) (by simp;omega)).trans (h.block j d c)⟩
theorem pR {w w':World}(h:w.grownBy w' none):Bw w w':=⟨h.os,h.tape,h.output,h.size,λk a=>h.block k a (by simp)⟩
theorem Jv(w:World)(a q:Nat)(v:Value)(l:List bn)(y:bn)(x:dm w a v l)(K:dw w q y)(L:a<=w.heap.size)(M:l.length+1<=1000000):
  Calls prog 226 #[v,.int .i64 (l.length:Int),.slice (some ⟨q,0,none⟩) 1 1] w (lM w a v (l++[y])):=by
 obtain⟨P,D⟩:=Nm (lM w a v (l++[y]));rw[<-D];obtain⟨n,E⟩:=Nm (l.length);have F:Hid (∀e b,dm b a e (l++[y])->w.grownBy b v.ownBlock->(e.ownBlock=v.ownBlock∨e.ownBlock=some w.heap.size)->P (.returned e) b):=Lh (λe b Q R S=>by rw[D];exact⟨e,rfl,Q,R,S⟩)
 have k:=Lh (bfy x (bfy L (bfy M λj z (p:y.cells[j]? =some z)=>K.cell j p)));have U:((1:Int)==0)=false:=rfl;have r:=x.shape;rw[<-E]at r ⊢;have Y:=Lh E;clear D x K L M E;rcases r with⟨rfl,N⟩ | ⟨g,c,rfl,Z⟩
 ·obtain rfl:n=0:=by rw[Y.out,N];rfl
  have d:∀b,(Instr.slice 70 (.slice none 0 0) (some (.int .i64 0)) none none).run prog b=.ok (.slice none 0 0) b:=λb=>by
   simp[Instr.slice,run_underlying underlying70,Instr.sliceBounds,run_sliceBound,show ∀w,(sizeOf 131).run prog w=.ok 8 w from sizeOf131]
  unfold bM at k F ⊢;clear N;go_enter func226,ntmps226;go_upto_region 7 with fail;refine bg4 ?_
  iterate 6 go_step
  refine kZ rfl (.tmp 23) (.tmp 24) rfl a _ l rfl k.out.1 y q rfl (λj z p=>k.out.2.2.2 j z p) k.out.2.2.1 k.out.2.1 ?_;intro e b m s u;have o:=Lh (F.out e b m s u);rcases m.shape with⟨rfl,h⟩ | ⟨I,J,rfl,_⟩
  ·simp at h
  have o:Hid (P (.returned (.slice (some ⟨I,0,none⟩) (l.length+1) J)) b):=by
   have h:=o.out;rw[bft,bg0]at h;exact Lh h
  rw[bft,bg0];clear m s u d;go_wp2_with fail;exact o.out
 obtain⟨o0,O⟩:=Nm (if c=n then 0 else n*8)
 have d:∀b,(Instr.slice 70 (.slice (some ⟨g,0,none⟩) n c) (some (.int .i64 (n:Int))) none none).run prog b=.ok (.slice (some ⟨g,o0,none⟩) (n-n) (c-n)) b:=λb=>by rw[O];exact jc b g n c n (bfx _)
 clear O;have e1:((n:Int)==(n:Int))=true:=by simp
 clear Z;go_enter func226,ntmps226;go_upto_region 7 with fail;refine bg4 ?_
 iterate 6 go_step
 refine kZ rfl (.tmp 23) (.tmp 24) rfl a _ l rfl k.out.1 y q rfl (λj z p=>k.out.2.2.2 j z p) k.out.2.2.1 k.out.2.1 ?_;intro e b m s u;have o:=Lh (F.out e b m s u);rcases m.shape with⟨rfl,h⟩ | ⟨I,J,rfl,_⟩
 ·simp at h
 have o:Hid (P (.returned (.slice (some ⟨I,0,none⟩) (l.length+1) J)) b):=by
  have h:=o.out;rw[bft,bg0]at h;exact Lh h
 rw[bft,bg0];clear m s u d;go_wp2_with fail;exact o.out
def XG(w:World)(gn n cap i:Nat)(l:List bn)(y:bn):Nat->World->Prop
 | 0,w'=>dm w' w.heap.size (.slice (some ⟨gn,0,none⟩) (n+1) cap) (l.take i++[y]++List.replicate (n-i) dh)/\w.grownBy w' none
 | _+1,w'=>dm w' w.heap.size (.slice (some ⟨gn,0,none⟩) (n+1) cap) (l.take i++[y]++l.drop i)/\w.grownBy w' none
theorem yC {w w' a:World}(h:w.grownBy w' none)(b:Bw w' a):w.grownBy a none:=
 ⟨b.os.trans h.os,b.tape.trans h.tape,b.output.trans h.output,bgn h.size b.size,λj d c=>(b.block j (Nat.lt_of_lt_of_le d h.size)).trans (h.block j d c)⟩
theorem F9(w:World)(o g c i q:Nat)(l:List bn)(y:bn)(Y:dm w o (.slice (some ⟨g,0,none⟩) l.length c) l)(hq:dw w q y)(hi:i<l.length)(hc:c<l.length+1)(hb:o<=w.heap.size)(hn:l.length+1<=1000000):
  Calls prog 226 #[.slice (some ⟨g,0,none⟩) l.length c,.int .i64 (i:Int),.slice (some ⟨q,0,none⟩) 1 1] w (lM w o (.slice (some ⟨g,0,none⟩) l.length c) (l.take i++[y]++l.drop i)):=by
 obtain⟨n,u⟩:=Nm (l.length);rw[<-u]at Y hi hc hn ⊢;obtain⟨P,hP⟩:=Nm (lM w o (.slice (some ⟨g,0,none⟩) n c) (l.take i++[y]++l.drop i));rw[<-hP];have XY:Hid (∀e b d,dm d w.heap.size (.slice (some ⟨e,0,none⟩) (n+1) b) (l.take i++[y]++l.drop i)->e=w.heap.size->w.grownBy d none->P (.returned (.slice (some ⟨e,0,none⟩) (n+1) b)) d):=Lh (λe b d h1 h2 h3=>by
  rw[hP];refine⟨_,rfl,?_,Bh h3 _,.inr (by rw[h2];rfl)⟩
  exact dm.mono h1 hb)
 have r:=Lh (bfy Y (bfy hq (bfy u hb)));have Yv:Hid (i<n/\c<n+1/\n+1<=1000000/\n<=c):=Lh ⟨hi,hc,hn,by obtain⟨_,_,_,_,_,_,h⟩:=Y.row u;exact h⟩
 have ai:n<=c:=Yv.out.2.2.2;have J:∀d,(Instr.slice 70 (.slice (some ⟨g,0,none⟩) n c) (some (.int .i64 (i:Int))) none none).run prog d=.ok (.slice (some ⟨g,i*8,none⟩) (n-i) (c-i)) d:=λd=>by
  have h:=jc d g n c i (by omega)
  rwa [if_neg (by omega)]at h
 have ZK:∀d,(Instr.slice 70 (.slice (some ⟨g,0,none⟩) n c) none (some (.int .i64 (i:Int))) none).run prog d=.ok (.slice (some ⟨g,0,none⟩) i c) d:=λd=>mM d _ n c i (by omega)
 have aj:((1:Int)==0)=false:=rfl;have e1:((i:Int)==(n:Int))=false:=by simpa using λh:(i:Int)=(n:Int)=>by omega
 have ak:(c:Int)<(n:Int)+1:=by omega
 have aa:=Lh J;clear hP u Y hq hb;go_enter func226,ntmps226;go_upto_region 9 with fail;refine bg4 ?_
 iterate 24 go_step
 refine Df rfl (.tmp 34) (.tmp 39) rfl (m:=n+1-i) (r.out.1.take r.out.2.2.1 (by omega)) (by rw[bga,<-r.out.2.2.1];omega) (by omega) (by omega) (by omega) rfl _ rfl (by omega) ?_
 intro b w2 L k2;rw[show i+(n+1-i)=n+1 by omega]at L ⊢
 obtain⟨e,s⟩:=Nm (w.heap.size);rw[<-s]at L ⊢;have N:n+1<=b:=by obtain⟨_,_,_,_,_,_,h⟩:=L.row (by rw[bft,List.length_replicate,bga,<-r.out.2.2.1];omega);exact h
 have F:Hid (dm w2 w.heap.size (.slice (some ⟨e,0,none⟩) (n+1) b) (l.take i++List.replicate (n+1-i) dh)/\w.grownBy w2 none/\e=w.heap.size):=Lh ⟨by rw[<-s];exact L,k2,s⟩
 clear L k2 s;have ab:∀d,(Instr.slice 70 (.slice (some ⟨e,0,none⟩) (n+1) b) (some (.int .i64 (i:Int))) none none).run prog d=.ok (.slice (some ⟨e,i*8,none⟩) (n+1-i) (b-i)) d:=λd=>by
  have h:=jc d e (n+1) b i (by omega)
  rwa [if_neg (by omega)]at h
 have O:∀d,(Instr.slice 70 (.slice (some ⟨e,0,none⟩) (n+1) b) (some (.int .i64 ((i:Int)+1))) none none).run prog d=.ok (.slice (some ⟨e,(i+1)*8,none⟩) (n-i) (b-(i+1))) d:=λd=>by
  have h:=jc d e (n+1) b (i+1) (by omega)
  rwa [if_neg (by omega),show((i+1:Nat):Int)=(i:Int)+1 by omega,show n+1-(i+1)=n-i by omega]at h
 go_upto_region 10 with fail;refine bg4 ?_
 iterate 12 go_step
 refine qi rfl (.tmp 43) (.tmp 44) rfl (M:=[y]) (i:=i) (k:=1) F.out.1 (by rw[bft,List.length_replicate,bga,<-r.out.2.2.1];omega) rfl (by omega) (n+1-i) (b-i) ⟨q,0,none⟩ 1 1 (Nat.min_eq_left (by omega)).symm (λj v hj=>by
  rw[addr_add,bgu];have hR:=r.out.2.1.below (pR F.out.2.1);exact hR.cell j (by simpa[bT]using hj)) rfl rfl ?_
 intro Q j1 j2;have R:(l.take i++List.replicate (n+1-i) dh).take i++[y]++(l.take i++List.replicate (n+1-i) dh).drop (i+1)=l.take i++[y]++List.replicate (n-i) dh:=by
  have hl:(l.take i).length=i:=by rw[bga,<-r.out.2.2.1];omega
  rw[List.take_left' hl,List.drop_append,List.drop_eq_nil_of_le (by omega),hl,List.nil_append,List.drop_replicate]
  congr 2
  omega
 rw[R]at j1;have Z:Hid (dm Q w.heap.size (.slice (some ⟨e,0,none⟩) (n+1) b) (l.take i++[y]++List.replicate (n-i) dh)/\w.grownBy Q none/\e=w.heap.size):=Lh ⟨j1,Dy F.out.2.1 j2 (by rw[F.out.2.2];exact bfx _),F.out.2.2⟩
 clear j1 j2 R F;have HS:=Lh (bfy O (bfy N hi));clear ab O;go_upto_region 11 with fail;have ac:Hid (XG w e n b i l y 0 Q.drew):=by
  have hd:=(Below.refl Q.heap.size Q).drew;exact Lh ⟨Z.out.1.far hd,yC Z.out.2.1 hd⟩
 refine wp_region_skip_frame (λi=>([]:List Nat).contains i) (by kernel_rfl) (NoF [none,none,none,some 0]) [8] (V4 ((Value.slice (some ⟨e,0,none⟩) (n+1) b)::(Value.int .i64 (i:Int))::(Value.int .i64 (1:Int))::(Value.int .i64 ((i:Int)+1))::(Value.slice (some ⟨e,(i+1)*8,none⟩) (n-i) (b-(i+1)))::(Value.slice (some ⟨g,0,none⟩) n c)::(Value.int .i64 (i:Int))::(Value.slice (some ⟨g,i*8,none⟩) (n-i) (c-i))::goInt ((n-i:Nat):Int)::([]:List Value)) 99 (λ_ _ _=>True) 99 (λ_ _ _=>True) 99 (λ_ _ _=>True) 99 (λ_ _ _=>True)) (XG w e n b i l y) (λw d=>Bw w d) (wP _ (λ_ _ _ _ _ h=>h) (λ_ _ _ _ _ h=>h) (λ_ _ _ _ _ h=>h) (λ_ _ _ _ _ h=>h)) (by kernel_rfl) (by kernel_rfl) (by kernel_rfl) ac.out (λ_=>⟨rfl,rfl,rfl,rfl,rfl,rfl,rfl,rfl,rfl,trivial⟩) (λ_ h=>by simp at h) ?_ ?_
 ·refine ⟨?_,?_,?_,?_,?_,?_,?_,?_,?_,trivial⟩<;>(first|(intro _ _ a d I x p K hK;guard_hyp d:World)|intro _ a d I x p K hK)<;>replace x:=Lh x<;>replace p:=Lh p
  have q9:=FoA x 9 (.slice (some ⟨e,0,none⟩) (n+1) b);rotate_left;have q1:=FiA x 1 i;rotate_left;have q7:=FiA x 7 1;rotate_left;have uk:=Pi a 47 i p.out.1;have iW:=Pi a 48 1 p.out.2.1;have ad:=Yv.out;rotate_left;have Am:=Ep a 46 (.slice (some ⟨e,0,none⟩) (n+1) b) p.out.1;have UU:=Ep a 49 (.int .i64 ((i:Int)+1)) p.out.2.1;have ae:=HS.out.1;rotate_left;have q0:=FoA x 0 (.slice (some ⟨g,0,none⟩) n c);rotate_left;have q1:=FiA x 1 i;rotate_left;have UV:=Ep a 51 (.slice (some ⟨g,0,none⟩) n c) p.out.1;have I9:=Pi a 52 i p.out.2.1;have ae:=aa.out;rotate_left
  ·obtain ⟨p0,p1,_⟩:=p.out;have U0:=(show a.eval (.tmp 50)=.slice (some ⟨e,(i+1)*8,none⟩) (n - i) (b - (i+1))from p0);have af:=(show a.eval (.tmp 53)=.slice (some ⟨g,i*8,none⟩) (n - i) (c - i)from p1);obtain⟨ag,S⟩:=(show dm d w.heap.size (.slice (some ⟨e,0,none⟩) (n+1) b) (l.take i++[y]++List.replicate (n - i) dh)/\w.grownBy d none from I);have ad:=Yv.out;have u:=r.out.2.2.1;have z:(l.take i++[y]).length=i+1:=by rw[bft,bga,<-u,bg0];omega
   refine qU (.tmp 50) (.tmp 53) rfl (M:=l.drop i) (i:=i+1) (k:=n-i) ag (by rw[bft,z,List.length_replicate];omega) (by rw[bgx,<-u]) (by omega) (n-i) (b-(i+1)) ⟨g,i*8,none⟩ (n-i) (c-i) (Nat.min_self _).symm (λj v hj=>?_) U0 af (λal m1 m2=>?_)
   ·exact(r.out.1.far (pR S)).yg u (by omega) j v hj
   have ah:(l.take i++[y]++List.replicate (n-i) dh).drop (i+1+(n-i))=[]:=List.drop_eq_nil_of_le (by rw[bft,z,List.length_replicate];omega)
   rw[List.take_left' z,ah,bg2]at m1;exact hK _ _ rfl ⟨m1,Dy S m2 (by rw[Z.out.2.2];exact bfx _)⟩ (jE (.inr λ_ h=>h) (.inr λ_ h=>h) (.inr λ_ h=>h) (.inr λ_ h=>h))
  all_goals(go_step;exact hK _ _ rfl I Br)
 intro vs D I U hV
 match vs,U,hV with
 | [v0,v1,v2,v3,v4,v5,v6,v7,v8],_,hV=>
  clear hV;have E:dm D w.heap.size (.slice (some ⟨e,0,none⟩) (n+1) b) (l.take i++[y]++l.drop i)/\w.grownBy D none:=I;have HZ:=Lh (XY.out e b D E.1 Z.out.2.2 E.2);clear I E;simp only[putsL,bf7,bf1];simp only[Act.put,bfw,bfu,bfv];go_wp2_with fail;exact HZ.out
theorem Jt(w:World)(a i q:Nat)(v:Value)(l:List bn)(y:bn)(b:dm w a v l)(d:dw w q y)(n:v.ownBlock≠some q)(h:i<=l.length)(k:a<=w.heap.size)(m:l.length+1<=1000000):
  Calls prog 226 #[v,.int .i64 (i:Int),.slice (some ⟨q,0,none⟩) 1 1] w (lM w a v (l.take i++[y]++l.drop i)):=by
 by_cases j:i=l.length
 ·subst j;rw[bgs,List.drop_length,bg2];exact Jv w a q v l y b d k m
 rcases b.shape with⟨rfl,o⟩ | ⟨g,c,rfl,u⟩
 ·rw[o]at h j;simp at h j;omega
 by_cases p:l.length+1<=c
 ·refine(Ju w a g c i q l y b d (λe=>n (by rw[e];rfl)) h p (by omega)).mono ?_
  rintro e x ⟨rfl,r,s⟩;exact⟨_,rfl,r,s,.inl rfl⟩
 exact F9 w a g c i q l y b d (by omega) (by omega) k m
theorem qN(w:World)(g n c i j:Nat)(h:i<=j)(k:j<=n)(d:n<=c):
  (Instr.slice 70 (.slice (some ⟨g,0,none⟩) n c) (some (.int .i64 (i:Int))) (some (.int .i64 (j:Int))) none).run prog w=.ok (.slice (some ⟨g,(if c=i then 0 else i*8),none⟩) (j-i) (c-i)) w:=by
 have b:∀w,(sizeOf 131).run prog w=.ok 8 w:=sizeOf131;have a:j<=c:=by omega
 by_cases e:c=i
 ·subst e;simp[Instr.slice,run_underlying underlying70,Instr.sliceBounds,run_sliceBound,b,h,a]
 simp[Instr.slice,run_underlying underlying70,Instr.sliceBounds,run_sliceBound,b,h,a,addr_add,e]
def XI(w:World)(base g n c i j:Nat)(l:List bn)(y:bn):Nat->World->Prop
 | 0,w'=>dm w' base (.slice (some ⟨g,0,none⟩) n c) (l.take i++[y]++l.drop (i+1))/\w.grownBy w' (some g)
 | _+1,w'=>dm w' base (.slice (some ⟨g,0,none⟩) n c) ((l.take i++[y]++l.drop (i+1)).take (i+1)++l.drop j++(l.take i++[y]++l.drop (i+1)).drop (i+1+(n-j)))/\w.grownBy w' (some g)
theorem Qx {w w' a:World} {r:Option Nat}(h:w.grownBy w' r)(b:Bw w' a):w.grownBy a r:=
 ⟨b.os.trans h.os,b.tape.trans h.tape,b.output.trans h.output,bgn h.size b.size,λj d c=>(b.block j (Nat.lt_of_lt_of_le d h.size)).trans (h.block j d c)⟩
theorem mV {w w' a:World} {r:Option Nat}(h:w.grownBy w' r)(b:w'.grownBy a r):w.grownBy a r:=
 ⟨b.os.trans h.os,b.tape.trans h.tape,b.output.trans h.output,bgn h.size b.size,λj d c=>(b.block j (Nat.lt_of_lt_of_le d h.size) c).trans (h.block j d c)⟩
theorem JX(w:World)(d g c i j q:Nat)(l:List bn)(y:bn)(hO:dm w d (.slice (some ⟨g,0,none⟩) l.length c) l)(hq:dw w q y)(ay:q≠g)(ag:i<j)(hj:j<=l.length)(hn:l.length+1<=1000000):
  Calls prog 188 #[.slice (some ⟨g,0,none⟩) l.length c,.int .i64 (i:Int),.int .i64 (j:Int),.slice (some ⟨q,0,none⟩) 1 1] w (lM w d (.slice (some ⟨g,0,none⟩) l.length c) (l.take i++[y]++l.drop j)):=by
 obtain⟨n,r⟩:=Nm (l.length);rw[<-r]at hO hj hn ⊢;obtain⟨P,hP⟩:=Nm (lM w d (.slice (some ⟨g,0,none⟩) n c) (l.take i++[y]++l.drop j));rw[<-hP];have XY:Hid (∀T b,dm b d (.slice (some ⟨g,0,none⟩) T c) (l.take i++[y]++l.drop j)->w.grownBy b (some g)->P (.returned (.slice (some ⟨g,0,none⟩) T c)) b):=Lh (λT b h1 h2=>by
  rw[hP];exact⟨_,rfl,h1,h2,.inl rfl⟩)
 have ab:n<=c:=by obtain⟨_,_,_,_,_,_,h⟩:=hO.row r;exact h
 have D:=Lh (bfy hO (bfy hq (bfy r ay)));have Yv:Hid (i<j/\j<=n/\n+1<=1000000/\n<=c):=Lh ⟨ag,hj,hn,ab⟩;have L:(l.take i++[y]).length=i+1:=by rw[bft,bga,<-r,bg0];omega
 have F:=Lh L;have al:∀b,(Instr.slice 70 (.slice (some ⟨g,0,none⟩) n c) (some (.int .i64 (i:Int))) (some (.int .i64 (j:Int))) none).run prog b=.ok (.slice (some ⟨g,i*8,none⟩) (j-i) (c-i)) b:=λb=>by
  have h:=qN b g n c i j (by omega) hj ab
  rwa [if_neg (by omega)]at h
 have ZK:∀b,(Instr.slice 70 (.slice (some ⟨g,0,none⟩) n c) none (some (.int .i64 (i:Int))) none).run prog b=.ok (.slice (some ⟨g,0,none⟩) i c) b:=λb=>mM b _ n c i (by omega)
 have e0:((i:Int)==(j:Int))=false:=by simpa using λh:(i:Int)=(j:Int)=>by omega
 clear hP r hO hq ay L;by_cases N:j=n
 ·subst N;have e1:((j:Int)==(j:Int))=true:=by simp
  go_enter func188,ntmps188;go_upto_region 5 with fail;refine bg4 ?_
  iterate 12 go_step
  refine xR rfl (.tmp 32) (.tmp 33) rfl (i:=i) D.out.1 D.out.2.2.1 (by omega) (λk z hz=>D.out.2.1.cell k hz) rfl rfl ?_
  intro E k1 k2;have H2:Hid (dm E d (.slice (some ⟨g,0,none⟩) j c) (l.take i++[y]++l.drop (i+1))/\w.grownBy E (some g)):=Lh ⟨k1,k2⟩;have s:j=(l.take i++[y]++l.drop (i+1)).length:=by rw[bft,F.out,bgx,<-D.out.2.2.1];omega
  have ac:(l.take i++[y]++l.drop (i+1)).take (i+1)=l.take i++[y]++l.drop j:=by
   rw[List.take_left' F.out,List.drop_eq_nil_of_le (show l.length<=j by rw[<-D.out.2.2.1];exact bfx _),bg2]
  have u:=Lh (bfy s ac);clear k1 k2 s ac;by_cases au:i+1<j
  ·have ad:(i:Int)+1<(j:Int):=by omega
   obtain⟨o0,O⟩:=Nm (if c=i+1 then 0 else (i+1)*8)
   have Ho:=Lh O;have ah:∀b,(Instr.slice 70 (.slice (some ⟨g,0,none⟩) j c) (some (.int .i64 ((i:Int)+1))) none none).run prog b=.ok (.slice (some ⟨g,o0,none⟩) (j-(i+1)) (c-(i+1))) b:=λb=>by
    have h:=jc b g j c (i+1) (by omega)
    rwa [<-O,show((i+1:Nat):Int)=(i:Int)+1 by omega]at h
   clear O;go_upto_region 7 with fail;refine bg4 ?_
   iterate 12 go_step
   refine pz rfl (.tmp 43) rfl (i:=i+1) H2.out.1 u.out.1 (by omega) (by rw[<-Ho.out];rfl) ?_
   intro I j1 j2;have HZ:Hid (P (.returned (.slice (some ⟨g,0,none⟩) (i+1) c)) I):=by
    rw[u.out.2]at j1;exact Lh (XY.out (i+1) I j1 (mV H2.out.2 j2))
   clear j1 j2 ah;go_wp2_with fail;exact HZ.out
  have ad:¬((i:Int)+1<(j:Int)):=by omega
  have HZ:Hid (P (.returned (.slice (some ⟨g,0,none⟩) (i+1) c)) E):=by
   have h:=H2.out.1.take u.out.1 (i:=i+1) (by omega)
   rw[u.out.2]at h;exact Lh (XY.out (i+1) E h H2.out.2)
  go_wp2_with fail;exact HZ.out
 have ae:j<n:=by omega
 have e1:((j:Int)==(n:Int))=false:=by simpa using λh:(j:Int)=(n:Int)=>N (by omega)
 obtain⟨T,hT⟩:=Nm (i+1+(n - j));have u:Hid (T=i+1+(n-j)/\T<=n/\(i:Int)+1+((n-j:Nat):Int)=(T:Int)/\j<n):=Lh ⟨hT,by omega,by omega,ae⟩
 have ai:∀b,(Instr.slice 70 (.slice (some ⟨g,0,none⟩) n c) (some (.int .i64 (j:Int))) none none).run prog b=.ok (.slice (some ⟨g,j*8,none⟩) (n-j) (c-j)) b:=λb=>by
  have h:=jc b g n c j hj
  rwa [if_neg (by omega)]at h
 have UF:∀b,(Instr.slice 70 (.slice (some ⟨g,0,none⟩) n c) none (some (.int .i64 (T:Int))) none).run prog b=.ok (.slice (some ⟨g,0,none⟩) T c) b:=λb=>mM b _ n c T (by omega)
 have ug:∀b,(Instr.slice 70 (.slice (some ⟨g,0,none⟩) T c) (some (.int .i64 (i:Int))) none none).run prog b=.ok (.slice (some ⟨g,i*8,none⟩) (T-i) (c-i)) b:=λb=>by
  have h:=jc b g T c i (by omega)
  rwa [if_neg (by omega)]at h
 have UG:∀b,(Instr.slice 70 (.slice (some ⟨g,0,none⟩) T c) (some (.int .i64 ((i:Int)+1))) none none).run prog b=.ok (.slice (some ⟨g,(i+1)*8,none⟩) (n-j) (c-(i+1))) b:=λb=>by
  have h:=jc b g T c (i+1) (by omega)
  rwa [if_neg (by omega),show((i+1:Nat):Int)=(i:Int)+1 by omega,show T-(i+1)=n-j by omega]at h
 obtain⟨o0,O⟩:=Nm (if c=T then 0 else T*8)
 have Ho:=Lh O;have ZJ:∀b,(Instr.slice 70 (.slice (some ⟨g,0,none⟩) n c) (some (.int .i64 (T:Int))) none none).run prog b=.ok (.slice (some ⟨g,o0,none⟩) (n-T) (c-T)) b:=λb=>by
  rw[O];exact jc b g n c T (by omega)
 have HS:=Lh (bfy ZK (bfy ai UG));have Q:¬((c:Int)<(T:Int)):=by omega
 have R:(i:Int)+1<=(j:Int):=by omega
 clear O hT N;go_enter func188,ntmps188;go_upto_region 9 with fail;have av:Hid (w.drew=w.drew):=Lh rfl;have HR:=Lh (bfy ug (bfy ZJ (bfy UF (bfy Q R))));refine wp_region_skip_frame (λi=>([]:List Nat).contains i) (by kernel_rfl) (NoF (NoF [none,none,none])) [] (λi_ _ _ v_=>v_=((([.slice (some ⟨g,0,none⟩) n c,.int .i64 (i:Int),.slice (some ⟨g,0,none⟩) i c,.int .i64 (i:Int),.slice (some ⟨q,0,none⟩) 1 1,.int .i64 (1:Int),.int .i64 ((i:Int)+1),.slice (some ⟨g,0,none⟩) n c,.int .i64 (j:Int),.slice (some ⟨g,j*8,none⟩) (n-j) (c-j),.int .i64 ((n-j:Nat):Int),.int .i64 (T:Int),.int .i64 (T:Int)]:List Value))).getD i_ undef) (λ_ b=>Bw w b) (λw b=>Bw w b) (λ_ _ _ _ _ _ h=>h) (by kernel_rfl) (by kernel_rfl) (by kernel_rfl) (show Bw w w.drew from(Below.refl _ w).drew) (λ_=>⟨rfl,rfl,rfl,rfl,rfl,rfl,rfl,rfl,rfl,rfl,rfl,rfl,rfl,trivial⟩) (λ_ h=>by simp at h) ?_ ?_
 ·refine ⟨?_,?_,?_,?_,?_,?_,?_,?_,?_,?_,?_,?_,?_,trivial⟩<;>intro _ _ a b o p e K hK<;>replace p:=Lh p<;>replace e:=Lh e
  have q0:=FoA p 0 (.slice (some ⟨g,0,none⟩) n c);rotate_left;have q1:=FiA p 1 i;rotate_left;have UT:=Ep a 45 (.slice (some ⟨g,0,none⟩) n c) e.out.1;have Am:=Pi a 46 i e.out.2.1;have S:=HS.out.1;rotate_left;have uk:=Ep a 47 (.slice (some ⟨g,0,none⟩) i c) e.out.1;rotate_left;have q3:=FoA p 3 (.slice (some ⟨q,0,none⟩) 1 1);rotate_left;have UU:=Ep a 49 (.slice (some ⟨q,0,none⟩) 1 1) e.out.1;rotate_left;have iW:=Pi a 48 i e.out.1;have aw:=Pi a 50 1 e.out.2.1;have hl:=Yv.out;rotate_left;have q0:=FoA p 0 (.slice (some ⟨g,0,none⟩) n c);rotate_left;have q2:=FiA p 2 j;rotate_left;have I9:=Ep a 52 (.slice (some ⟨g,0,none⟩) n c) e.out.1;have ax:=Pi a 53 j e.out.2.1;have S:=HS.out.2.1;rotate_left;have az:=Ep a 54 (.slice (some ⟨g,j*8,none⟩) (n-j) (c-j)) e.out.1;rotate_left;have UV:=Ep a 51 (.int .i64 ((i:Int)+1)) e.out.1;have aA:=Ep a 55 (.int .i64 ((n-j:Nat):Int)) e.out.2.1;obtain⟨L,U,aB,aC⟩:=Yv.out;have hT:=u.out.2.2.1;have aD:=u.out.2.1;rotate_left;have aE:=Pi a 56 T e.out.1;rotate_left
  all_goals(go_step;exact hK _ _ rfl o Br)
 intro vs E o m J
 match vs,m,J with
 | [v0,v1,v2,v3,v4,v5,v6,v7,v8,v9,v10,v11,v12],_,J=>
  obtain rfl:v12=.int .i64 (T:Int):=(J 12 10 v12 rfl rfl);clear J;simp only[putsL,bf7,bf1];simp only[Act.put,bfw,bfu,bfv];have Y:Hid (w.grownBy E none/\dm E d (.slice (some ⟨g,0,none⟩) n c) l/\dw E q y):=by
   have Z:w.grownBy E none:=⟨o.os,o.tape,o.output,o.size,λk hk _=>o.block k hk⟩;exact Lh ⟨Z,D.out.1.far o,D.out.2.1.below o⟩
  clear o;obtain⟨ug,ZJ,UF,Q,R⟩:=HR.out;go_upto_region 17 with fail;refine bg4 ?_
  iterate 12 go_step
  refine qi rfl (.tmp 95) (.tmp 96) rfl (M:=[y]) (i:=i) (k:=1) Y.out.2.1 D.out.2.2.1 rfl (by have:=Yv.out;omega) (T-i) (c-i) ⟨q,0,none⟩ 1 1 (Nat.min_eq_left (by have:=u.out;omega)).symm (λk v hk=>by
   rw[addr_add,bgu];exact Y.out.2.2.cell k (by simpa[bT]using hk)) rfl rfl ?_
  intro I j1 j2;have H3:Hid (dm I d (.slice (some ⟨g,0,none⟩) n c) (l.take i++[y]++l.drop (i+1))/\w.grownBy I (some g)):=Lh ⟨j1,mV (Bh Y.out.1 _) j2⟩;clear j1 j2;have aj:=Lh ZJ;clear ug ZJ UF Q R;go_upto_region 18 with fail;have aF:Hid (XI w d g n c i j l y 0 I.drew):=by
   have hd:=(Below.refl I.heap.size I).drew;exact Lh ⟨H3.out.1.far hd,Qx H3.out.2 hd⟩
  refine wp_region_skip_frame (λi=>([]:List Nat).contains i) (by kernel_rfl) (NoF [none,none,none,none,some 0]) [9] (V4 ((Value.slice (some ⟨g,0,none⟩) T c)::(Value.int .i64 (i:Int))::(Value.slice (some ⟨q,0,none⟩) 1 1)::(Value.int .i64 (1:Int))::(Value.int .i64 ((i:Int)+1))::(Value.slice (some ⟨g,(i+1)*8,none⟩) (n-j) (c-(i+1)))::(Value.slice (some ⟨g,0,none⟩) n c)::(Value.int .i64 (j:Int))::(Value.slice (some ⟨g,j*8,none⟩) (n-j) (c-j))::goInt ((n-j:Nat):Int)::([]:List Value)) 99 (λ_ _ _=>True) 99 (λ_ _ _=>True) 99 (λ_ _ _=>True) 99 (λ_ _ _=>True)) (XI w d g n c i j l y) (λw b=>Bw w b) (wP _ (λ_ _ _ _ _ h=>h) (λ_ _ _ _ _ h=>h) (λ_ _ _ _ _ h=>h) (λ_ _ _ _ _ h=>h)) (by kernel_rfl) (by kernel_rfl) (by kernel_rfl) aF.out (λ_=>⟨rfl,rfl,rfl,rfl,rfl,rfl,rfl,rfl,rfl,rfl,trivial⟩) (λ_ h=>by simp at h) ?_ ?_
  ·refine ⟨?_,?_,?_,?_,?_,?_,?_,?_,?_,?_,trivial⟩<;>(first|(intro _ _ a b o p e K hK;guard_hyp b:World)|intro _ a b o p e K hK)<;>replace p:=Lh p<;>replace e:=Lh e
   have aG:=FoA p 12 (.slice (some ⟨g,0,none⟩) T c);rotate_left;have q1:=FiA p 1 i;rotate_left;have q3:=FoA p 3 (.slice (some ⟨q,0,none⟩) 1 1);rotate_left;have am:=Ep a 100 (.slice (some ⟨q,0,none⟩) 1 1) e.out.1;rotate_left;have aH:=Pi a 99 i e.out.1;have an:=Pi a 101 1 e.out.2.1;have hl:=Yv.out;rotate_left;have aI:=Ep a 98 (.slice (some ⟨g,0,none⟩) T c) e.out.1;have ao:=Ep a 102 (.int .i64 ((i:Int)+1)) e.out.2.1;have S:=HS.out.2.2;rotate_left;have q0:=FoA p 0 (.slice (some ⟨g,0,none⟩) n c);rotate_left;have q2:=FiA p 2 j;rotate_left;have ap:=Ep a 104 (.slice (some ⟨g,0,none⟩) n c) e.out.1;have ar:=Pi a 105 j e.out.2.1;have S:=HS.out.2.1;rotate_left
   ·obtain ⟨p0,p1,_⟩:=e.out;have UY:=(show a.eval (.tmp 103)=.slice (some ⟨g,(i+1)*8,none⟩) (n-j) (c-(i+1))from p0);have UZ:=(show a.eval (.tmp 106)=.slice (some ⟨g,j*8,none⟩) (n-j) (c-j)from p1);obtain⟨af,Z⟩:=(show dm b d (.slice (some ⟨g,0,none⟩) n c) (l.take i++[y]++l.drop (i+1))/\w.grownBy b (some g)from o);obtain⟨b1,b2,b3,b4⟩:=Yv.out;obtain⟨t1,t2,t3,t4⟩:=u.out;have r:=D.out.2.2.1;have m:n=(l.take i++[y]++l.drop (i+1)).length:=by rw[bft,F.out,bgx,<-r];omega
    have ak:(l.take i++[y]++l.drop (i+1)).drop j=l.drop j:=by
     rw[List.drop_append,List.drop_eq_nil_of_le (show(l.take i++[y]).length<=j by rw[F.out];omega),F.out,List.nil_append,List.drop_drop]
     congr 1
     omega
    refine qU (.tmp 103) (.tmp 106) rfl (M:=l.drop j) (i:=i+1) (k:=n-j) af m (by rw[bgx,<-r]) (by omega) (n-j) (c-(i+1)) ⟨g,j*8,none⟩ (n-j) (c-j) (Nat.min_self _).symm (λk v hk=>?_) UY UZ (λx m1 m2=>?_)
    ·have h:=af.yg m (show j<=n by omega) k v
     rw[ak]at h;exact h hk
    exact hK _ _ rfl ⟨m1,mV Z m2⟩ (jE (.inr λ_ h=>h) (.inr λ_ h=>h) (.inr λ_ h=>h) (.inr λ_ h=>h))
   all_goals(go_step;exact hK _ _ rfl o Br)
  intro vs x o m J
  match vs,m,J with
  | [v0,v1,v2,v3,v4,v5,v6,v7,v8,v9],_,J=>
   clear J;have aa:dm x d (.slice (some ⟨g,0,none⟩) n c) ((l.take i++[y]++l.drop (i+1)).take (i+1)++l.drop j++(l.take i++[y]++l.drop (i+1)).drop (i+1+(n-j)))/\w.grownBy x (some g):=o;have H4:Hid (dm x d (.slice (some ⟨g,0,none⟩) n c) (l.take i++[y]++l.drop j++(l.take i++[y]++l.drop (i+1)).drop T)/\w.grownBy x (some g)/\n=(l.take i++[y]++l.drop j++(l.take i++[y]++l.drop (i+1)).drop T).length/\(l.take i++[y]++l.drop j++(l.take i++[y]++l.drop (i+1)).drop T).take T=l.take i++[y]++l.drop j):=by
    obtain⟨b1,b2,b3,b4⟩:=Yv.out;obtain⟨t1,t2,t3,t4⟩:=u.out;have r:=D.out.2.2.1;have U:(l.take i++[y]++l.drop j).length=T:=by rw[bft,F.out,bgx,<-r];omega
    have h:=aa.1;rw[List.take_left' F.out,<-t1]at h;exact Lh ⟨h,aa.2,by rw[bft,U,bgx,bft,F.out,bgx,<-r];omega,List.take_left' U⟩
   clear o aa;simp only[putsL,bf7,bf1];simp only[Act.put,bfw,bfu,bfv];have ZJ:=aj.out;go_upto_region 19 with fail;refine bg4 ?_
   iterate 9 go_step
   refine pz rfl (.tmp 110) rfl (i:=T) H4.out.1 H4.out.2.2.1 u.out.2.1 (by rw[<-Ho.out];rfl) ?_
   intro w5 m1 m2;have HZ:Hid (P (.returned (.slice (some ⟨g,0,none⟩) T c)) w5):=by
    rw[H4.out.2.2.2]at m1;exact Lh (XY.out T w5 m1 (mV H4.out.2.1 m2))
   clear m1 m2 ZJ;go_wp2_with fail;exact HZ.out
theorem Gp(w:World)(a i q:Nat)(v:Value)(l:List bn)(y:bn)(u:dm w a v l)(z:dw w q y)(D:v.ownBlock≠some q)(k:i<=l.length)(E:a<=w.heap.size)(F:l.length+1<=1000000):
  Calls prog 188 #[v,.int .i64 (i:Int),.int .i64 (i:Int),.slice (some ⟨q,0,none⟩) 1 1] w (lM w a v (l.take i++[y]++l.drop i)):=by
 have r:=Lh (Jt w a i q v l y u z D k E F);obtain⟨P,x⟩:=Nm (lM w a v (l.take i++[y]++l.drop i));have s:Hid (∀d b,dm b a d (l.take i++[y]++l.drop i)->w.grownBy b v.ownBlock->(d.ownBlock=v.ownBlock∨d.ownBlock=some w.heap.size)->P (.returned d) b):=Lh (λd b j m o=>by rw[x];exact⟨d,rfl,j,m,o⟩)
 rw[<-x];rcases u.shape with⟨rfl,K⟩ | ⟨g,c,rfl,I⟩
 ·obtain rfl:i=0:=by rw[K]at k;simpa using k
  have N:∀b,(Instr.slice 70 (.slice none 0 0) (some (.int .i64 0)) (some (.int .i64 0)) none).run prog b=.ok (.slice none 0 0) b:=λb=>by
   simp[Instr.slice,run_underlying underlying70,Instr.sliceBounds,run_sliceBound,show ∀w,(sizeOf 131).run prog w=.ok 8 w from sizeOf131]
  unfold bM at r ⊢;rw[show((0:Nat):Int)=0 from rfl]at r ⊢;clear x u z D k E F K;go_enter func188,ntmps188;go_wp2_with fail;refine r.out.mono ?_;rintro e b ⟨d,rfl,j,m,o⟩;have J:=Lh (s.out d b j m o);have p:=j.shape;clear j m o;dsimp only;rcases p with⟨rfl,h⟩ | ⟨O,Q,rfl,_⟩
  ·simp at h
  go_wp2_with fail;exact J.out
 obtain⟨n,L⟩:=Nm (l.length);rw[<-L]at r I k ⊢;obtain⟨R,M⟩:=Nm (if c=i then 0 else i*8)
 have N:∀b,(Instr.slice 70 (.slice (some ⟨g,0,none⟩) n c) (some (.int .i64 (i:Int))) (some (.int .i64 (i:Int))) none).run prog b=.ok (.slice (some ⟨g,R,none⟩) (i-i) (c-i)) b:=λb=>by
  rw[M];exact qN b g n c i i (bfx _) k I
 have S:((i:Int)==(i:Int))=true:=by simp
 clear x u z D k E F M L I;go_enter func188,ntmps188;go_wp2_with fail;refine r.out.mono ?_;rintro e b ⟨d,rfl,j,m,o⟩;have J:=Lh (s.out d b j m o);have p:=j.shape;clear j m o;dsimp only;rcases p with⟨rfl,h⟩ | ⟨O,Q,rfl,_⟩
 ·simp at h
 go_wp2_with fail;exact J.out
theorem xC(w:World)(a i j q:Nat)(v:Value)(l:List bn)(y:bn)(d:dm w a v l)(h:dw w q y)(k:v.ownBlock≠some q)(n:i<=j)(b:j<=l.length)(o:a<=w.heap.size)(m:l.length+1<=1000000):
  Calls prog 188 #[v,.int .i64 (i:Int),.int .i64 (j:Int),.slice (some ⟨q,0,none⟩) 1 1] w (lM w a v (l.take i++[y]++l.drop j)):=by
 by_cases p:i=j
 ·subst p;exact Gp w a i q v l y d h k b o m
 rcases d.shape with⟨rfl,r⟩ | ⟨g,c,rfl,s⟩
 ·rw[r]at b;simp at b;omega
 exact JX w a g c i j q l y d h (λe=>k (by rw[e];rfl)) (by omega) b m
end Go.Proofs.YtgfmbkoieacgoaaGreatDoor
