/-
  38.
-/
import Derived.Test.YtjeeghafachebaaGreatU36
import Derived.Test.YtjeeghafachebaaGreatU37
import Derived.Test.YtjeeghafachebaaGreatU33
set_option maxRecDepth 100000
set_option maxHeartbeats 8000000
namespace Go.Proofs.YtjeeghafachebaaGreat
open Go Go.RowKit Go.Proofs.Tryz
def DT(Vs:List Value):List (Nat × (Nat->World->Value->Prop))->Nat->Nat->World->Value->Prop
 | [],i,_,_,v=>v=Vs.getD i undef
 | (n,A)::r,i,k,w,v=>cond (Nat.beq i n) (A k w v) (DT Vs r i k w v)
theorem lX {Vs:List Value}(le:World->World->Prop):∀(L:List (Nat × (Nat->World->Value->Prop))),(∀p∈L,∀k w w' v,le w w'->p.2 k w v->p.2 k w' v)->∀i k w w' v,le w w'->DT Vs L i k w v->DT Vs L i k w' v
 | [],_,_,_,_,_,_,_,h=>h
 | (n,A)::r,hL,i,k,w,w',v,hl,h=>by
  unfold DT at h ⊢;cases e:Nat.beq i n <;> rw[e]at h
  ·exact lX le r (λp hp=>hL p (List.mem_cons_of_mem _ hp)) i k w w' v hl h
  exact hL (n,A) (List.mem_cons_self ..) k w w' v hl h
theorem gN {Vs:List Value} {i k k':Nat} {w w':World} {l:List Oper} {a:Act}:∀(L:List (Nat × (Nat->World->Value->Prop))),(∀p∈L,i=p.1∨∀d,dQ l p.1=some d->p.2 k w (a.eval (.tmp d))->p.2 k' w' (a.eval (.tmp d)))->∀j d,j≠i->dQ l j=some d->DT Vs L j k w (a.eval (.tmp d))->DT Vs L j k' w' (a.eval (.tmp d))
 | [],_,_,_,_,_,h=>h
 | (n,A)::r,hL,j,d,hj,hd,h=>by
  unfold DT at h ⊢;cases e:Nat.beq j n <;> rw[e]at h
  ·exact gN r (λp hp=>hL p (List.mem_cons_of_mem _ hp)) j d hj hd h
  have hn:=Nat.eq_of_beq_eq_true e;rcases hL (n,A) (List.mem_cons_self ..)with h' | h'
  ·exact absurd (hn.trans h'.symm) hj
  exact h' d (by rw[<-hn];exact hd) h
def ql(w:World)(v:Value)(ws:List bg):Prop:=∃a c,v=.slice a ws.length c/\ws.length<=c/\dF w a ws
def PM(v:Value)(n:Nat):Prop:=∃a c,v=.slice a n c
theorem ql.below {w w':World} {v:Value} {ws:List bg}(h:ql w v ws)(hB:Bw w w'):ql w' v ws:=by
 obtain⟨a,c,h1,h2,h3⟩:=h;exact⟨a,c,h1,h2,h3.below hB⟩
theorem NA {k:List (BitVec 8)} {z:Int}(h:Sv k=.int .i64 z):False:=by
 unfold Sv at h;cases h
theorem ql.store {w w':World} {v:Value} {ws:List bg} {b:Nat}(h:ql w v ws)(hr:∀x∈ws,x.bB=true)(hb:bZ w b bX)(hg:w.grownBy w' (some b)):ql w' v ws:=by
 obtain⟨a,c,h1,h2,h3⟩:=h;refine⟨a,c,h1,h2,?_⟩;rcases h3 with h3 | ⟨b',o,ha,h3⟩
 ·exact .inl h3
 refine .inr ⟨b',o,ha,λi x hx j u hu=>?_⟩;have hc:=h3 i x hx j u hu;have hne:b'≠b:=by
  rintro rfl;have hk:=h3 i x hx 0 _ rfl;have hz:=cu (hr x (bf3 hx));rw[cell_of_row _ _ _ _ _ _ hb]at hk;have hkey:x.key≠[]:=λe=>by
   have h1:=hz.1;rw[e]at h1
   revert h1
   decide
  have hlt:=(Array.getElem?_eq_some_iff.1 hk).1;have hlt3:o+i*3+0<3:=hlt
  match ho:o+i*3+0,hlt3,hk with
  | 0,_,hk=>
   have e:Sv ([]:List (BitVec 8))=Sv x.key:=Option.some.inj hk;unfold Sv at e;exact hkey (Dw (congrArg ByteArray.toList (Value.string.inj e))).symm
  | 1,_,hk=>exact NA (Option.some.inj hk).symm
  | 2,_,hk=>exact NA (Option.some.inj hk).symm
 have hlt:=block_lt_of_cell hc;have hbl:=hg.block b' hlt (by simpa using hne)
 rw[<-hc];unfold World.cell?;simp only[hbl]
def QE(B:Nat)(ws ts:List bg)(gl:Nat)(SE:bg):List (Nat × (Nat->World->Value->Prop)):=
 [(1,λ_ w v=>ql w v ws),(3,λ_ w v=>∃x u,v=.tuple #[x,.agg SE.cells,u]/\ql w x ts/\PM u gl),(4,λ_ w v=>∃x u,v=.tuple #[x,.agg SE.cells,u]/\ql w x ts/\PM u gl),(5,λ_ w v=>ql w v ts),(7,λ_ _ v=>PM v gl),
  (8,λk w v=>∃b,v=.pointer (some ⟨b,0,none⟩)/\B<=b/\bZ w b (if k<=1 then bX else SE)),(9,λ_ w v=>ql w v ts),(11,λ_ _ v=>PM v gl)]
theorem QF {B:Nat} {ws ts:List bg} {gl:Nat} {SE:bg}:∀p∈QE B ws ts gl SE,∀k w w' v,Bw w w'->p.2 k w v->p.2 k w' v:=by
 intro p hp k w w' v hB h;simp only[QE,bf2,bf9,or_false]at hp;rcases hp with rfl | rfl | rfl | rfl | rfl | rfl | rfl | rfl
 ·exact ql.below h hB
 ·obtain⟨x,u,h1,h2,h3⟩:=h;exact⟨x,u,h1,h2.below hB,h3⟩
 ·obtain⟨x,u,h1,h2,h3⟩:=h;exact⟨x,u,h1,h2.below hB,h3⟩
 ·exact ql.below h hB
 ·exact h
 ·obtain⟨b,h1,h2,h3⟩:=h;exact⟨b,h1,h2,h3.below hB⟩
 ·exact ql.below h hB
 exact h
theorem Ni {B:Nat} {ws ts:List bg} {gl:Nat} {SE:bg} {w w':World} {b:Nat} {l:List Oper} {a:Act}(hws:∀x∈ws,x.bB=true)(hts:∀x∈ts,x.bB=true)(hl:dQ l 8=some 10)(ha:a.eval (.tmp 10)=.pointer (some ⟨b,0,none⟩))(hb:bZ w b bX)(hBb:B<=b)(hg:w.grownBy w' (some b))(hr:bZ w' b SE):
  ∀p∈QE B ws ts gl SE,10=p.1∨∀d,dQ l p.1=some d->p.2 1 w (a.eval (.tmp d))->p.2 2 w' (a.eval (.tmp d)):=by
 intro p hp;simp only[QE,bf2,bf9,or_false]at hp;rcases hp with rfl | rfl | rfl | rfl | rfl | rfl | rfl | rfl
 ·exact .inr λd _ h=>ql.store h hws hb hg
 ·exact .inr λd _ ⟨x,u,h1,h2,h3⟩=>⟨x,u,h1,h2.store hts hb hg,h3⟩
 ·exact .inr λd _ ⟨x,u,h1,h2,h3⟩=>⟨x,u,h1,h2.store hts hb hg,h3⟩
 ·exact .inr λd _ h=>ql.store h hts hb hg
 ·exact .inr λd _ h=>h
 ·refine .inr λd hd _=>?_;rw[hl]at hd;cases hd
  exact⟨b,ha,hBb,hr⟩
 ·exact .inr λd _ h=>ql.store h hts hb hg
 exact .inr λd _ h=>h
theorem Ld {B:Nat} {ws ts:List bg} {gl:Nat} {SE:bg} {w w':World} {l:List Oper} {a:Act}(hB:Bw w w'):∀p∈QE B ws ts gl SE,8=p.1∨∀d,dQ l p.1=some d->p.2 0 w (a.eval (.tmp d))->p.2 1 w' (a.eval (.tmp d)):=by
 intro p hp;simp only[QE,bf2,bf9,or_false]at hp;rcases hp with rfl | rfl | rfl | rfl | rfl | rfl | rfl | rfl
 ·exact .inr λd _ h=>ql.below h hB
 ·exact .inr λd _ ⟨x,u,h1,h2,h3⟩=>⟨x,u,h1,h2.below hB,h3⟩
 ·exact .inr λd _ ⟨x,u,h1,h2,h3⟩=>⟨x,u,h1,h2.below hB,h3⟩
 ·exact .inr λd _ h=>ql.below h hB
 ·exact .inr λd _ h=>h
 ·exact .inl rfl
 ·exact .inr λd _ h=>ql.below h hB
 exact .inr λd _ h=>h
theorem bQ {P:Program} {fn:Func} {p s u:Tmp} {ty:TypeId}(h:fn.results=#[.cell p ty,.tmp s,.tmp u])(tmps:Array Value)(w:World)(g:Nat)(t:TypeId)(cs:Array Value)(fr:Nat × Nat)(d:TypeDesc)
  (hp:tmps.getD p undef=.pointer (some ⟨g,0,none⟩)) (hg:w.heap[g]? =some (.cells cs t fr)) (hd:P.underlying ty=some d) (ha:(match d with | .struct _ | .array _ _=>true | _=>false)=true) (hi:(P.info? ty).map (·.size)=some cs.size):
  (results fn tmps).run P w=.ok (.tuple #[.agg cs,tmps.getD s undef,tmps.getD u undef]) w:=by
 have hp':tmps[p]?.getD undef=.pointer (some ⟨g,0,none⟩):=by simpa using hp
 simp[results,h,hp',asAddr,run_loadVar_row w g t ty cs fr d hg hd ha hi]
def zo(w:World)(q:bz)(l:List bn)(W:bg)(e:Ending)(w':World):Prop:=∃A G B:List bn,l=A++G++B/\G.map bn.p=dX q (l.map bn.p) W/\(A++B).map bn.p=gK q (l.map bn.p) W/\
 (∀a∈A,bJ a.p.w (dN q (l.map bn.p) W))/\(∀x∈B,bJ (dN q (l.map bn.p) W) x.p.w)/\e=.returned (.tuple #[.agg (dN q (l.map bn.p) W).cells,.int .i64 (A.length:Int),.int .i64 ((A.length+G.length:Nat):Int)])/\Bw w w'
theorem Ma {l:List bn} {A G B:List bH}(h:l.map bn.p=A++G++B):∃a g b:List bn,l=a++g++b/\a.map bn.p=A/\g.map bn.p=G/\b.map bn.p=B:=by
 obtain⟨ag,b,e1,h1,h2⟩:=List.map_eq_append_iff.1 h;obtain⟨a,g,e2,h3,h4⟩:=List.map_eq_append_iff.1 h1;exact⟨a,g,b,by rw[e1,e2],h3,h4,h2⟩
theorem NI(w:World)(q:bz)(x:bg):
  let W:=((w.alloc (.cells q.cells 23)).alloc (.cells x.cells 47)).alloc (.cells bX.cells 47)
  dn W w.heap.size q/\bZ W (w.heap.size+1) x/\bZ W (w.heap.size+2) bX/\Bw w W/\W.heap.size=w.heap.size+3:=by
 intro W;obtain⟨k1,k2,k3⟩:=Jm w q x;have hs:((w.alloc (.cells q.cells 23)).alloc (.cells x.cells 47)).heap.size=w.heap.size+2:=by rw[bq,bq]
 have k4:=(Below.refl _ ((w.alloc (.cells q.cells 23)).alloc (.cells x.cells 47))).alloc (bfx _) (.cells bX.cells 47);refine⟨k1.below k4,k2.below k4,?_,Tb k3 k4,by show(World.alloc _ _).heap.size=_;rw[bq,hs]⟩
 rw[<-hs];exact bg5 _ _
theorem Mg(w:World)(q:bz)(sa:Option Addr)(sc:Nat)(l:List bn)(W:bg)(hA:dI w sa l)(hk:∀x∈l,x.p.w.key.length<=1000000)(hp:fH q (l.map bn.p)=true)(hW:W.bB=true)(iX:W.key.length<=1000000)(hn:l.length<=800):
    Calls prog 63 #[.agg q.cells,.slice sa l.length sc,.agg W.cells] w (zo w q l W):=by
  have mixed:prog.follows .mixedOrders=true:=by kernel_rfl
  obtain⟨A0,B0,hs0,hr0,ha0,hb0⟩:=z8 hp hW;obtain⟨lA,lG,lB,hl,hlA,OT,hlB⟩:=Ma hs0;obtain⟨P,hP⟩:=Nm (zo w q l W);rw[<-hP];obtain⟨SE,Tj⟩:=Nm (dN q (l.map bn.p) W);obtain⟨na,hna⟩:=Nm (lA.length);obtain⟨ng,Yp⟩:=Nm (lG.length);have HP:Hid (∀wz,Bw w wz->P (.returned (.tuple #[.agg SE.cells,.int .i64 (na:Int),.int .i64 ((na:Int)+(ng:Int))])) wz):=Lh (λwz hB=>by
    rw[hP,Tj];refine⟨lA,lG,lB,hl,OT,by rw[bgl,hlA,hlB,hr0],λa ha=>ha0 _ (by rw[<-hlA];exact List.mem_map.2 ⟨a,ha,rfl⟩),λx hx=>hb0 _ (by rw[<-hlB];exact List.mem_map.2 ⟨x,hx,rfl⟩),by rw[hna,Yp];simp,hB⟩)
  have uM:A0.length=na:=by rw[hna,<-hlA,bfz]
  have Ow:(dX q (l.map bn.p) W).length=ng:=by rw[Yp,<-OT,bfz]
  obtain⟨w1,hw1⟩:=Nm (((w.alloc (.cells q.cells 23)).alloc (.cells W.cells 47)).alloc (.cells #[.string ⟨#[]⟩,.int .i64 0,.int .i64 0] 47));obtain⟨qb,Sm⟩:=Nm (w.heap.size);obtain⟨wb,hwb⟩:=Nm (w.heap.size+1);obtain⟨rb,hrb⟩:=Nm (w.heap.size+2);have H1:Hid (dn w1 qb q/\bZ w1 wb W/\bZ w1 rb bX/\Bw w w1/\w1.heap.size=w.heap.size+3):=by rw[hw1,Sm,hwb,hrb];exact Lh (NI w q W)
  have SA:Hid (w.heap.size<=rb/\rb<w1.heap.size):=Lh ⟨by omega,by have:=H1.out.2.2.2.2;omega⟩
  obtain⟨n,hN⟩:=Nm (l.length);rw[<-hN];have hn8:n<=800:=by omega
  have hsum:na+ng<=800:=by
    have:=congrArg List.length hl;rw[bft,bft]at this;omega
  have hbk:SE.key.length<=1000000:=by
    rw[Tj,dN]
    split
    · rw[(jh (l:=fI (l.map bn.p)) hW).2.1];exact iX
    · exact iX
  -- the two ways
  have V8:Hid (q.kind=3->∃(ws ts:List bg) (gv:List Nat),ws.length=n/\ts.length<=1000000/\gv.length=ng/\(∀x∈ws,x.bB=true)/\(∀x∈ts,x.bB=true)/\
      (∀w',Bw w w'->Calls prog 53 #[.slice sa n sc] w' (jU w' ws))/\
      (∀w' a c,dF w' a ws->Calls prog 95 #[.slice a n c,.agg W.cells] w' (sP w' ts SE gv))/\
      (∀w' a c,dF w' a ts->Calls prog 96 #[.slice a ts.length c,.agg SE.cells] w' (bE w' (.int .i64 (na:Int))))):=by
    refine Lh (λhkd=>?_);obtain⟨t1,t2,t3⟩:=wL hkd hp hW hr0 ha0 hb0;have hset:dD (fI (l.map bn.p)):=by
      unfold fH at hp;rw[if_pos hkd]at hp;exact bgh hp
    have hws:fI (l.map bn.p)=l.map λx=>x.p.w:=by rw[fI,List.map_map];rfl
    have hts:=tY hset hW;rw[hts]at t1;have hte:mq (fI (l.map bn.p)) W=fI A0++dN q (l.map bn.p) W::fI B0:=(Prod.mk.inj t1).1;have htr:=(vT hset hW).1.1;have hlen:(fI (l.map bn.p)).length=n:=by rw[fI,bfz,bfz,hN]
    have htl:(mq (fI (l.map bn.p)) W).length<=1000000:=by
      have h0:=congrArg List.length hs0;rw[hte];rw[bfz,bft,bft]at h0;simp only[bft,bgy,fI,bfz];omega
    refine⟨_,_,lJ (fI (l.map bn.p)) W,hlen,htl,by rw[t2,Ow],hset.1,htr,λw' hB=>?_,λw' a c h=>?_,λw' a c h=>?_⟩
    · rw[hws,hN];exact wU w' sa sc l (hA.below hB) (by omega)
    · have h3:=MQ w' a c (fI (l.map bn.p)) W h (λy hy=>by
        rw[hws]at hy;obtain⟨z,hz,rfl⟩:=List.mem_map.1 hy;exact hk z hz) iX (by omega)
      rw[hts,hlen]at h3;simp only at h3;have e:became (fI (l.map bn.p)) W=SE:=by rw[Tj,dN,if_pos hkd]
      rw[e]at h3;exact h3
    · rw[hte]at h ⊢;have h3:=JJ w' a c (fI A0) (fI B0) SE _ rfl (by rw[Tj];exact h) (by rw[Tj];exact t3) (by rw[Tj,<-hte];exact htl)
      rw[Tj]at h3 ⊢;rw[show(fI A0).length=na by rw[fI,bfz,uM]]at h3
      exact h3
  have Vt:Hid (q.kind≠3->SE=W/\∀w',Bw w w'->Calls prog 97 #[.slice sa n sc,.agg W.cells,.func (.func 98) #[] #[]] w' (λe w''=>∃b:Bool,e=.returned (.tuple #[.int .i64 (na:Int),.bool b])/\ng=(if b=true then 1 else 0)/\Bw w' w'')):=by
    refine Lh (λhkd=>⟨by rw[Tj,dN,if_neg hkd],λw' hB=>?_⟩)
    have hws:fI (l.map bn.p)=l.map λx=>x.p.w:=by rw[fI,List.map_map];rfl
    rw[hN];refine(D9 w' sa sc l W (hA.below hB) (by rw[<-hws];exact ll.2 (jJ hp)) (by omega)).mono ?_
    rintro e w'' ⟨p,b,rfl,h1,h2,h3⟩;rw[<-hws]at h1 h2;obtain⟨_,k2,k3⟩:=JI hkd hp hs0 ha0 hb0 h1 h2;exact⟨b,by rw[k2,uM],by rw[<-Ow,k3],h3⟩
  clear hA hk hp hW iX hn hs0 hr0 ha0 hb0 hl hlA OT hlB Tj hna Yp uM Ow hN hbk hP;obtain⟨VB,iW⟩:=Nm (Value.agg SE.cells);obtain⟨VW,Vv⟩:=Nm (Value.agg W.cells);rw[<-iW]at HP V8;rw[<-Vv]at V8 Vt;obtain⟨kind,size,slide,late,agg,kq⟩:=q;obtain⟨Wv,EP⟩:=Nm W;rw[<-EP]at H1 Vt;obtain⟨wk,wl,wh⟩:=W;have Xk:Hid (VW=.agg #[Sv wk,.int .i64 wl,.int .i64 wh]):=Lh Vv;have XL:Hid (∀w',bZ w' wb Wv->D3 w' wb wk wl wh):=by rw[EP];exact Lh (λw' h=>h.d3)
  have HWe:Hid (Wv.cells=#[Sv wk,.int .i64 wl,.int .i64 wh]):=by rw[EP];exact Lh rfl
  clear EP Vv;unfold bz.cells bg.cells at hw1 ⊢;simp only at hw1 V8 Vt;have hs1:(w.alloc (.cells #[.int .i64 kind,.int .i64 size,.int .i64 slide,.int .i64 late,.int .i64 agg,.int .i64 kq] 23)).heap.size=w.heap.size+1:=bq w _;have hs2:((w.alloc (.cells #[.int .i64 kind,.int .i64 size,.int .i64 slide,.int .i64 late,.int .i64 agg,.int .i64 kq] 23)).alloc (.cells #[Sv wk,.int .i64 wl,.int .i64 wh] 47)).heap.size=w.heap.size+2:=by rw[bq,bq]
  obtain⟨d0,d1,d2,d3,d4,d5⟩:=H1.out.1.d6;simp only at d0 d1 d2 d3 d4 d5;have I5:Hid (∀w',Bw w1 w'->D3 w' wb wk wl wh):=Lh (λw' h=>XL.out w' (H1.out.2.1.below h));have Vz:Hid (∀w',Bw w1 w'->bZ w' rb bX):=Lh (λw' h=>H1.out.2.2.1.below h);have HB1:=Lh H1.out.2.2.2.1;clear H1;by_cases hkind:kind=3
  · subst hkind;obtain⟨ws,ts,gv,hwl,htl,hgl,hwr,htr,hWi,hTk,hIx⟩:=V8.out rfl;have Xl:=Lh hWi;have WV:=Lh hTk;have UV:=Lh hIx;have HL:Hid (ws.length=n/\gv.length=ng/\(∀x∈ws,x.bB=true)/\∀x∈ts,x.bB=true):=Lh ⟨hwl,hgl,hwr,htr⟩;obtain⟨nt,hnt⟩:=Nm (ts.length);rw[<-hnt]at htl;have IL:=Lh hnt;clear hWi hTk hIx hwl hgl hwr htr Vt hnt;go_enter func63,ntmps63;go_upto_region 1 with(fail);rw[<-hw1,<-hrb,<-hwb,<-Sm];clear hw1 hrb hwb Sm hs1 hs2;go_upto_region 2 with(fail);clear d0 d1 d2 d3 d4 d5;have SB:Hid (Bw w1 w1.drew):=Lh (Below.refl _ w1).drew;have iI:∀w',Bw w1 w'->∃b,Value.pointer (some ⟨w'.heap.size,0,none⟩)=.pointer (some ⟨b,0,none⟩)/\w1.heap.size<=b/\bZ (w'.alloc (.cells bX.cells 47)) b bX:=λw' h=>⟨_,rfl,h.size,bg5 w' _⟩;refine dZ (λi=>([]:List Nat).contains i) (by kernel_rfl) (NoF [none,none,none,some 0,none,some 1,none]) [8,10] (DT ((Value.slice sa n sc)::undef::VW::undef::undef::undef::VB::([undef,undef,undef,undef,undef]:List Value)) (QE w1.heap.size ws ts ng SE)) (λ_ w'=>Bw w1 w') (λw w'=>Bw w w') (lX _ _ QF) (by kernel_rfl) (by kernel_rfl) (by kernel_rfl) SB.out (λ_=>⟨rfl,rfl,rfl,rfl,rfl,rfl,rfl,rfl,rfl,rfl,rfl,rfl,trivial⟩) (λ_ h=>by simp at h) ?_ ?_
    · refine⟨?_,?_,?_,?_,?_,?_,?_,?_,?_,?_,?_,?_,trivial⟩
      · intro _ _ a w' hG Si Sj K hK;have q1:=Eo Si 1 (.slice sa n sc);clear Si Sj;go_step;exact hK _ _ rfl hG Br
      · intro _ _ a w' hG Si Sj K hK;obtain⟨p0,_⟩:=Sj;have VV:=Ep a 19 (.slice sa n sc) p0;clear Si p0;go_step;refine(Xl.out w' (Tb HB1.out hG)).mono ?_;rintro e w3 ⟨v,rfl,hO,hB⟩;obtain⟨a',c',hv,hc,hA⟩:=hO.form;exact hK _ _ ⟨a',c',hv,hc,hA⟩ (Tb hG hB) hB
      · intro _ _ a w' hG Si Sj K hK;have q5:=Ea Si 5 wb 0;obtain⟨e0,e1,e2⟩:=I5.out w' hG;clear Si Sj;go_step;exact hK _ _ Xk.out.symm hG Br
      · intro _ _ a w' hG Si Sj K hK;obtain⟨p0,p1,_⟩:=Sj;obtain⟨a1,c1,hv,hc1,hA1⟩:=(show ql w' (a.eval (.tmp 20)) ws from p0);have VZ:=Ep a 21 VW p1;clear Si p1;rw[HL.out.1]at hv;have Wy:=bf hv;have HS:=Lh (WV.out w' a1 c1 hA1);clear hA1 hv hc1;go_step;refine HS.out.mono ?_;rintro e w3 ⟨x,u,rfl,h1,h2,hB⟩;obtain⟨a',c',hx,hc,hA⟩:=h1.form;obtain⟨a2,c2,hu⟩:=Own.form h2;rw[nK,bfz,HL.out.2.1]at hu;exact hK _ _ ⟨x,u,rfl,⟨a',c',hx,hc,hA⟩,a2,c2,hu⟩ (Tb hG hB) hB
      · intro _ _ a w' hG Si Sj K hK;obtain⟨p0,_⟩:=Sj;obtain⟨x,u,hv,hx,hu⟩:=(show ∃x u,a.eval (.tmp 22)=.tuple #[x,.agg SE.cells,u]/\ql w' x ts/\PM u ng from p0);have q22:=bf hv;clear Si;clear hv;go_step;exact hK _ _ ⟨x,u,rfl,hx,hu⟩ hG Br
      · intro _ _ a w' hG Si Sj K hK;obtain⟨p0,_⟩:=Sj;obtain⟨x,u,hv,hx,hu⟩:=(show ∃x u,a.eval (.tmp 18)=.tuple #[x,.agg SE.cells,u]/\ql w' x ts/\PM u ng from p0);have Vn:=bf hv;clear Si;clear hv;go_step;exact hK _ _ hx hG Br
      · intro _ _ a w' hG Si Sj K hK;obtain⟨p0,_⟩:=Sj;obtain⟨x,u,hv,hx,hu⟩:=(show ∃x u,a.eval (.tmp 18)=.tuple #[x,.agg SE.cells,u]/\ql w' x ts/\PM u ng from p0);have Vn:=bf hv;clear Si;clear hv;go_step;exact hK _ _ iW.symm hG Br
      · intro _ _ a w' hG Si Sj K hK;obtain⟨p0,_⟩:=Sj;obtain⟨x,u,hv,hx,hu⟩:=(show ∃x u,a.eval (.tmp 18)=.tuple #[x,.agg SE.cells,u]/\ql w' x ts/\PM u ng from p0);have Vn:=bf hv;clear Si;clear hv;go_step;exact hK _ _ hu hG Br
      · intro _ a w' hG Si Sj K hK;clear Si Sj;go_step;exact hK _ _ (iI w' hG) (hG.trans (((Below.refl _ w').alloc (bfx _) _).mono hG.size)) (gN _ (Ld ((Below.refl _ w').alloc (bfx _) _)))
      · intro _ _ a w' hG Si Sj K hK;obtain⟨p0,_⟩:=Sj;obtain⟨a1,c1,hv,hc1,hA1⟩:=(show ql w' (a.eval (.tmp 23)) ts from p0);have Wi:=bf hv;clear Si;clear hv;go_step;exact hK _ _ ⟨a1,c1,rfl,hc1,hA1⟩ hG Br
      · intro _ a w' hG Si Sj K hK;obtain⟨p0,p1,_⟩:=Sj;obtain⟨b,hv,WW,hrow⟩:=(show ∃b,a.eval (.tmp 10)=.pointer (some ⟨b,0,none⟩)/\w1.heap.size<=b/\bZ w' b (if 1<=1 then bX else SE)from p0)
        have r24:=(show a.eval (.tmp 24)=VB from p1);rw[if_pos (bfx 1)]at hrow;rw[iW]at r24;refine tZ (.tmp 10) (.tmp 24) rfl b SE bX hv r24 hrow ?_;have hg:=bC w' b SE.cells;exact hK _ _ rfl (hG.trans ⟨hg.os,hg.tape,hg.output,hg.size,λk hk=>hg.block k (by have:=hG.size;omega) (by simp;omega)⟩) (gN _ (Ni HL.out.2.2.1 HL.out.2.2.2 rfl hv hrow WW hg (hrow.reset SE)))
      · intro _ _ a w' hG Si Sj K hK;obtain⟨p0,_⟩:=Sj;obtain⟨a1,c1,hv⟩:=(show PM (a.eval (.tmp 25)) ng from p0);have V3:=bf hv;clear Si;clear hv;go_step;exact hK _ _ ⟨a1,c1,rfl⟩ hG Br
    · intro vs w2 hG hlen hV
      match vs,hlen,hV with
      | [v0,v1,v2,v3,v4,v5,v6,v7,v8,v9,v10,v11],_,hV=>
        obtain⟨a9,c9,YA,hc9,Za⟩:=(show ql w2 v9 ts from hV 9 9 v9 rfl rfl);obtain⟨a11,c11,Vb⟩:=(show PM v11 ng from hV 11 11 v11 rfl rfl);obtain⟨tb,hvb,htb,hrow⟩:=(show ∃b,v8=.pointer (some ⟨b,0,none⟩)/\w1.heap.size<=b/\bZ w2 b (if 2<=1 then bX else SE)from hV 8 10 v8 rfl rfl)
        rw[if_neg (by decide)]at hrow
        subst YA Vb hvb;clear hV;rw[<-IL.out]at hc9;have H2:Hid (dF w2 a9 ts/\bZ w2 tb SE/\Bw w1 w2):=Lh ⟨Za,hrow,hG⟩;rw[<-IL.out];clear Za hrow hG htb;simp only[dG,bf7,bf1];simp only[Act.put,bfw,bfu,bfv];have o6:Hid (Calls prog 96 #[.slice a9 nt c9,VB] w2 (bE w2 (.int .i64 (na:Int)))):=by
          have h:=UV.out w2 a9 c9 H2.out.1;rw[<-IL.out]at h;exact Lh h
        clear UV WV Xl;obtain⟨bk,bl,bh⟩:=SE;have U9:Hid (VB=.agg #[Sv bk,.int .i64 bl,.int .i64 bh]):=Lh iW;rw[U9.out]at o6;obtain⟨f0,f1,f2⟩:=H2.out.2.1.d3;go_wp2_with(fail);refine o6.out.mono ?_;rintro e w3 ⟨rfl,hB⟩;have H3:Hid (bZ w3 tb ⟨bk,bl,bh⟩/\Bw w1 w3):=Lh ⟨H2.out.2.1.below hB,H2.out.2.2.trans (hB.mono H2.out.2.2.size)⟩;clear hB f0 f1 f2;dsimp only;obtain⟨f0,f1,f2⟩:=H3.out.1.d3;go_upto_region 4 with(fail);refine bg4 ?_
        iterate 18 go_step
        refine bg6 rfl _ _ _ rfl rb #[Sv bk,.int .i64 bl,.int .i64 bh] rfl rfl 47 bX.cells (Vz.out w3 H3.out.2) dh rfl (by exact dH ⟨bk,bl,bh⟩) ?_
        obtain⟨w9,SI⟩:=Nm (w3.setRow rb #[Sv bk,.int .i64 bl,.int .i64 bh]);have H9:Hid (bZ w9 rb ⟨bk,bl,bh⟩/\P (.returned (.tuple #[.agg #[Sv bk,.int .i64 bl,.int .i64 bh],.int .i64 (na:Int),.int .i64 ((na:Int)+(ng:Int))])) w9):=by
          have hg:w3.grownBy w9 (some rb):=by rw[SI];exact bC _ _ _
          have hB:=HB1.out.trans (H3.out.2.mono HB1.out.size);have h:=HP.out w9 (hB.trans (bG hg SA.out.1 hB.size));rw[U9.out]at h;exact Lh ⟨by rw[SI];exact bZ.reset (Vz.out w3 H3.out.2) ⟨bk,bl,bh⟩,h⟩
        rw[<-SI];clear SI;have hsm:=hsum;go_wp2_with(fail);exact bodyPost_ret (v:=.tuple #[.agg #[Sv bk,.int .i64 bl,.int .i64 bh],.int .i64 (na:Int),.int .i64 ((na:Int)+(ng:Int))]) ((bQ (p:=6) (s:=7) (u:=8) (ty:=47) rfl _ _ rb 47 #[Sv bk,.int .i64 bl,.int .i64 bh] (0,0) _ rfl H9.out.1 underlying47 rfl dh).trans rfl) rfl H9.out.2
  · have eH:(kind==3)=false:=by simpa using hkind
    obtain⟨hbw,hbs⟩:=Vt.out hkind;have El:=Lh hbs;have uz:Hid (VB=.agg #[Sv wk,.int .i64 wl,.int .i64 wh]):=by rw[iW,hbw,HWe.out];exact Lh rfl
    clear hbw hbs hkind V8 iW;go_enter func63,ntmps63;go_upto_region 1 with(fail);rw[<-hw1,<-hrb,<-hwb,<-Sm];clear hw1 hrb hwb Sm hs1 hs2;obtain⟨e0,e1,e2⟩:=I5.out w1 Br;have HC:Hid (Calls prog 97 #[.slice sa n sc,.agg #[Sv wk,.int .i64 wl,.int .i64 wh],.func (.func 98) #[] #[]] w1 (λe w''=>∃b:Bool,e=.returned (.tuple #[.int .i64 (na:Int),.bool b])/\ng=(if b=true then 1 else 0)/\Bw w1 w'')):=by
      have h:=El.out w1 HB1.out;rw[Xk.out]at h;exact Lh h
    go_wp2_with(fail);refine HC.out.mono ?_;rintro e w2 ⟨b,rfl,hb,hB⟩;have H2:=Lh hB;clear hB d0 d1 d2 d3 d4 d5 e0 e1 e2;dsimp only;obtain⟨e0,e1,e2⟩:=I5.out w2 H2.out
    cases b with
    | true=>
      rw[if_pos rfl]at hb;subst hb;go_upto_region 7 with(fail);refine bg4 ?_
      iterate 12 go_step
      refine bg6 rfl _ _ _ rfl rb #[Sv wk,.int .i64 wl,.int .i64 wh] rfl rfl 47 bX.cells (Vz.out w2 H2.out) dh rfl (by exact dH ⟨wk,wl,wh⟩) ?_
      obtain⟨w9,SI⟩:=Nm (w2.setRow rb #[Sv wk,.int .i64 wl,.int .i64 wh]);have H9:Hid (bZ w9 rb ⟨wk,wl,wh⟩/\P (.returned (.tuple #[.agg #[Sv wk,.int .i64 wl,.int .i64 wh],.int .i64 (na:Int),.int .i64 ((na:Int)+((1:Nat):Int))])) w9):=by
        have hg:w2.grownBy w9 (some rb):=by rw[SI];exact bC _ _ _
        have hB:=Tb HB1.out H2.out;have h:=HP.out w9 (hB.trans (bG hg SA.out.1 hB.size));rw[uz.out]at h;exact Lh ⟨by rw[SI];exact bZ.reset (Vz.out w2 H2.out) ⟨wk,wl,wh⟩,h⟩
      rw[<-SI];clear SI;have hsm:=hsum;go_wp2_with(fail);exact bodyPost_ret (v:=.tuple #[.agg #[Sv wk,.int .i64 wl,.int .i64 wh],.int .i64 (na:Int),.int .i64 ((na:Int)+((1:Nat):Int))]) ((bQ (p:=6) (s:=7) (u:=8) (ty:=47) rfl _ _ rb 47 #[Sv wk,.int .i64 wl,.int .i64 wh] (0,0) _ rfl H9.out.1 underlying47 rfl dh).trans rfl) rfl H9.out.2
    | false=>
      rw[if_neg (by simp)]at hb
      subst hb;go_upto_region 8 with(fail);refine bg4 ?_
      iterate 9 go_step
      refine bg6 rfl _ _ _ rfl rb #[Sv wk,.int .i64 wl,.int .i64 wh] rfl rfl 47 bX.cells (Vz.out w2 H2.out) dh rfl (by exact dH ⟨wk,wl,wh⟩) ?_
      obtain⟨w9,SI⟩:=Nm (w2.setRow rb #[Sv wk,.int .i64 wl,.int .i64 wh]);have H9:Hid (bZ w9 rb ⟨wk,wl,wh⟩/\P (.returned (.tuple #[.agg #[Sv wk,.int .i64 wl,.int .i64 wh],.int .i64 (na:Int),.int .i64 ((na:Int)+((0:Nat):Int))])) w9):=by
        have hg:w2.grownBy w9 (some rb):=by rw[SI];exact bC _ _ _
        have hB:=Tb HB1.out H2.out;have h:=HP.out w9 (hB.trans (bG hg SA.out.1 hB.size));rw[uz.out]at h;exact Lh ⟨by rw[SI];exact bZ.reset (Vz.out w2 H2.out) ⟨wk,wl,wh⟩,h⟩
      rw[<-SI];clear SI;have hsm:=hsum;go_wp2_with(fail);exact bodyPost_ret (v:=.tuple #[.agg #[Sv wk,.int .i64 wl,.int .i64 wh],.int .i64 (na:Int),.int .i64 ((na:Int)+((0:Nat):Int))]) ((bQ (p:=6) (s:=7) (u:=8) (ty:=47) rfl _ _ rb 47 #[Sv wk,.int .i64 wl,.int .i64 wh] (0,0) _ rfl H9.out.1 underlying47 rfl dh).trans rfl) rfl H9.out.2
end Go.Proofs.YtjeeghafachebaaGreat
