/-
  47.
-/
import Derived.Test.YtjeeghafachebaaGreatU46
set_option maxRecDepth 100000
set_option maxHeartbeats 16000000
namespace Go.Proofs.YtjeeghafachebaaGreat
open Go Go.RowKit Go.Proofs.Tryz
def M5(wB:World)(lv:Value)(nl:List bn)(wr:World):Prop:=bO wr lv nl/\(∀x∈nl,bR wr x)/\Bw wB wr
theorem M5.below {wB wr wz:World} {lv:Value} {nl:List bn}(h:M5 wB lv nl wr)(hB:Bw wr wz):M5 wB lv nl wz:=⟨h.1.below hB,λx hx=>(h.2.1 x hx).below hB,h.2.2.trans (hB.mono h.2.2.size)⟩
theorem M5.ww {wB wr wz:World} {lv ov:Value} {nl:List bn} {ol:List bM}(h:M5 wB lv nl wr)(ho:fe wr wB.heap.size ov ol)(hg:wr.grownBy wz ov.ownBlock):M5 wB lv nl wz:=
 ⟨h.1.ww ho hg,λx hx=>⟨bA.ww (h.2.1 x hx).1 ho hg,(h.2.1 x hx).2⟩,h.2.2.trans (fe.below ho hg h.2.2.size)⟩
def KJ(wB:World)(q:bz)(m v:Int)(ws:List bg)(c0:kg)(ps0:List bH)(s9 s10 s11 Ed:Value)(wr:World):Prop:=
 ∃i:Nat,i<=ws.length/\Ed=.int .i64 (i:Int)/\∃nl ol,∃tk:Bool,s11=.bool tk/\ol.length<=i/\dC q m v ws c0=dC q m v (ws.drop i) ⟨nl.map bn.p,ol.map bM.o,!tk,0⟩/\dL q (nl.map bn.p) (256+i)/\mf q m (nl.map bn.p)/\
  (tk=false->nl.map bn.p=ps0/\ol=[])/\M5 wB s9 nl wr/\fe wr wB.heap.size s10 ol/\∀y∈ol,dO wr y
def nY(q:bz)(ps:List bH)(W:bg)(olds:List bg):Prop:=olds.length<=300/\∀p∈ps,(p.w∈olds↔lK q W p=true)
theorem zw {w w':World} {B b:Nat} {v:Value} {l:List bM} {cs:Array Value} {T:TypeId}(ho:fe w B v l)(hg:w.grownBy w' v.ownBlock)(h:w.heap[b]? =some (.cells cs T (0,0)))(hT:T≠50):w'.heap[b]? =some (.cells cs T (0,0)):=
 dz hg h (λe=>by
  obtain⟨cs',hc⟩:=Bv ho e.symm;rw[hc]at h;simp only[bf5,Obj.cells.injEq]at h;exact hT h.2.1.symm)
def Ci(w:World)(a:Option Addr)(l:List bg):Prop:=dF w a l/\(l=[]∨∃b o cs,a=some ⟨b,o,none⟩/\w.heap[b]? =some (.cells cs 47 (0,0)))
theorem Ci.below {w w':World} {a:Option Addr} {l:List bg}(h:Ci w a l)(hB:Bw w w'):Ci w' a l:=
 ⟨h.1.below hB,h.2.imp id λ⟨b,o,cs,h1,h2⟩=>⟨b,o,cs,h1,(hB.block b (Array.getElem?_eq_some_iff.1 h2).1).trans h2⟩⟩
theorem cK.typed {w:World} {B n c:Nat} {a:Option Addr} {l:List bg}(h:cK w B (.slice a n c) l):Ci w a l:=by
 refine⟨cK.at h,?_⟩;rcases h.2 with⟨k1,k2⟩ | ⟨g,c',cur,k1,_,k2,_⟩
 ·exact .inl (bg3 k2)
 right
 have e:a=some ⟨g,0,none⟩:=by injection k1
 exact⟨g,0,cur,e,k2⟩
theorem Ci.ww {w w':World} {B:Nat} {v:Value} {m:List bM} {a:Option Addr} {l:List bg}(h:Ci w a l)(ho:fe w B v m)(hg:w.grownBy w' v.ownBlock):Ci w' a l:=by
 obtain⟨h1,h2⟩:=h;rcases h2 with rfl | ⟨b,o,cs,rfl,hr⟩
 ·exact⟨.inl rfl,.inl rfl⟩
 have hr':=zw ho hg hr (by decide)
 refine⟨?_,.inr ⟨b,o,cs,rfl,hr'⟩⟩;rcases h1 with h1 | ⟨b',o',e,h1⟩
 ·exact .inl h1
 refine .inr ⟨b',o',e,λi x hx j u hu=>?_⟩;have e1:b'=b:=by injection e with e;injection e with e;exact e.symm
 rw[<-h1 i x hx j u hu,e1];unfold World.cell?;simp only[hr,hr']
def KI(wr:World)(wb:Nat)(q:bz)(ps:List bH)(W:bg)(i:Nat)(Eb Ed:Value)(wx:World):Prop:=
 Ed=.int .i64 (i:Int)/\∃oa oc olds,Eb=.slice oa olds.length oc/\nY q ps W olds/\Ci wx oa olds/\bZ wx wb (dN q ps W)/\Bw wr wx
theorem nY.rest {q:bz} {ps:List bH} {W:bg} {olds:List bg}(h:nY q ps W olds):yN olds ps=gK q ps W:=by
 unfold yN gK;apply List.filter_congr;intro p hp
 congr 1
 rw[Bool.eq_iff_iff,bf0];exact h.2 p hp
theorem nY.gave {q:bz} {ps:List bH} {W:bg} {olds:List bg}(h:nY q ps W olds):(ps.filter λp=>decide (p.w∈olds))=dX q ps W:=by
 unfold dX;apply List.filter_congr;intro p hp;rw[Bool.eq_iff_iff,bf0];exact h.2 p hp
theorem nY.plain {q:bz} {ps:List bH} {W:bg}(hk:q.kind≠3):nY q ps W (if W∈fI ps then [W]else []):=by
 refine⟨by split <;> simp,λp hp=>?_⟩
 unfold lK;rw[if_neg hk,bf0]
 split
 ·rw[bgd]
 rename_i h;refine⟨λh=>by simp at h,λe=>absurd (List.mem_map.2 ⟨p,hp,e⟩) h⟩
def Mh(ps:List bH)(W:bg):List bg:=(lJ (fI ps) W).map λi=>(fI ps).getD i bX
theorem nY.session {q:bz} {ps:List bH} {W:bg}(hk:q.kind=3)(hn:ps.length<=300):nY q ps W (Mh ps W):=by
 refine⟨?_,λp hp=>?_⟩
 ·unfold Mh lJ;rw[bfz];have h:=List.length_filter_le (λi=>dK ((fI ps).getD i bX) W) (List.range (fI ps).length);have hw:(fI ps).length=ps.length:=by rw[fI,bfz]
  rw[List.length_range]at h;omega
 unfold lK Mh lJ;rw[if_pos hk,bgj];constructor
 ·rintro⟨i,hi,e⟩;rw[<-e];exact(List.mem_filter.1 hi).2
 intro hj;have hm:p.w∈fI ps:=List.mem_map.2 ⟨p,hp,rfl⟩;obtain⟨i,hi,e⟩:=List.getElem_of_mem hm;have hg:(fI ps).getD i bX=p.w:=by rw[List.getD_eq_getElem?_getD,bfs hi,e];rfl
 exact⟨i,List.mem_filter.2 ⟨List.mem_range.2 hi,by rw[hg];exact hj⟩,hg⟩
def RJ(wI:World)(pb:Nat)(q:bz)(b:bg)(ps:List bH)(olds:List bg)(s94:Value)(wr:World):Prop:=
 ∃j:Nat,j<=ps.length/\s94=.int .i64 (j:Int)/\∃X:bn,X.p.w=b/\dY q b ((ps.take j).filter λp=>decide (p.w∈olds)) (dP,0)=(X.p.a,X.p.r,0)/\cz wr pb X/\bR wr X/\Bw wI wr
theorem take_at {ps:List bH} {j:Nat} {p:bH}(h:ps[j]? =some p)(f:bH->Bool):(ps.take (j+1)).filter f=(ps.take j).filter f++(if f p=true then [p]else [])/\ps.filter f=((ps.take j).filter f++(if f p=true then [p]else []))++(ps.drop (j+1)).filter f:=by
 have h1:(ps.take (j+1)).filter f=(ps.take j).filter f++(if f p=true then [p]else []):=by
  rw[List.take_add_one,h,List.filter_append]
  congr 1
  show List.filter f [p]=_;by_cases hf:f p=true
  ·rw[if_pos hf,List.filter_cons_of_pos hf];rfl
  rw[if_neg hf,List.filter_cons_of_neg hf];rfl
 refine⟨h1,?_⟩;rw[<-h1,<-List.filter_append,List.take_append_drop]
def xG(w:World)(u:Value)(gl:List Nat):Prop:=∃B,nU w B u gl
theorem xG.below {w w':World} {u:Value} {gl:List Nat}(h:xG w u gl)(hB:Bw w w'):xG w' u gl:=by
 obtain⟨B,h⟩:=h;exact⟨B,Own.far h hB⟩
theorem xG.store {w w':World} {u:Value} {gl:List Nat} {b:Nat} {x:bg}(h:xG w u gl)(hb:bZ w b x)(hg:w.grownBy w' (some b)):xG w' u gl:=by
 obtain⟨B,h⟩:=h;exact⟨B,Own.kept h hg (K6 h hb)⟩
theorem xG.form {w:World} {u:Value} {gl:List Nat}(h:xG w u gl):∃a c,u=.slice a gl.length c:=by
 obtain⟨B,h⟩:=h;obtain⟨a,c,e⟩:=Own.form h;exact⟨a,c,by rw[e];simp[nK]⟩
theorem xG.get {w:World} {a:Option Addr} {n c:Nat} {gl:List Nat}(h:xG w (.slice a n c) gl) {j g:Nat}(hj:gl[j]? =some g):∃b,a=some ⟨b,0,none⟩/\w.cell? ⟨b,j,none⟩=some (.int .i64 (g:Int)):=by
 obtain⟨B,h⟩:=h;have hl:j<gl.length:=(List.getElem?_eq_some_iff.1 hj).1;obtain⟨b,c',e,_,_⟩:=Own.Rt h (by simp[nK];omega)
 have e1:a=some ⟨b,0,none⟩:=by injection e
 have e2:n=(nK gl).length:=by injection e
 subst e1 e2;refine⟨b,rfl,?_⟩;have h2:=Own.cellAt h j (by simp[nK];omega)
 rw[h2];unfold nK;rw[bgf,hj];rfl
def EvL(B:Nat)(ws:List bg)(gl:List Nat)(SE:bg):List (Nat × (Nat->World->Value->Prop)):=
 [(1,λ_ w v=>ql w v ws),(3,λ_ w v=>∃x u,v=.tuple #[x,.agg SE.cells,u]/\xG w u gl),(4,λ_ w v=>∃x u,v=.tuple #[x,.agg SE.cells,u]/\xG w u gl),(5,λ_ _ _=>True),(7,λ_ w v=>xG w v gl),
  (8,λk w v=>∃b,v=.pointer (some ⟨b,0,none⟩)/\B<=b/\bZ w b (if k<=1 then bX else SE)),(9,λ_ _ _=>True),(11,λ_ w v=>xG w v gl)]
theorem QD {B:Nat} {ws:List bg} {gl:List Nat} {SE:bg}:∀p∈EvL B ws gl SE,∀k w w' v,Bw w w'->p.2 k w v->p.2 k w' v:=by
 intro p hp k w w' v hB h;simp only[EvL,bf2,bf9,or_false]at hp;rcases hp with rfl | rfl | rfl | rfl | rfl | rfl | rfl | rfl
 ·exact ql.below h hB
 ·obtain⟨x,u,h1,h2⟩:=h;exact⟨x,u,h1,h2.below hB⟩
 ·obtain⟨x,u,h1,h2⟩:=h;exact⟨x,u,h1,h2.below hB⟩
 ·trivial
 ·exact xG.below h hB
 ·obtain⟨b,h1,h2,h3⟩:=h;exact⟨b,h1,h2,h3.below hB⟩
 ·trivial
 exact xG.below h hB
theorem Lc {B:Nat} {ws:List bg} {gl:List Nat} {SE:bg} {w w':World} {l:List Oper} {a:Act}(hB:Bw w w'):∀p∈EvL B ws gl SE,8=p.1∨∀d,dQ l p.1=some d->p.2 0 w (a.eval (.tmp d))->p.2 1 w' (a.eval (.tmp d)):=by
 intro p hp;simp only[EvL,bf2,bf9,or_false]at hp;rcases hp with rfl | rfl | rfl | rfl | rfl | rfl | rfl | rfl
 ·exact .inr λd _ h=>ql.below h hB
 ·exact .inr λd _ ⟨x,u,h1,h2⟩=>⟨x,u,h1,h2.below hB⟩
 ·exact .inr λd _ ⟨x,u,h1,h2⟩=>⟨x,u,h1,h2.below hB⟩
 ·exact .inr λ_ _ _=>trivial
 ·exact .inr λd _ h=>xG.below h hB
 ·exact .inl rfl
 ·exact .inr λ_ _ _=>trivial
 exact .inr λd _ h=>xG.below h hB
theorem Nf {B:Nat} {ws:List bg} {gl:List Nat} {SE:bg} {w w':World} {b:Nat} {l:List Oper} {a:Act}(hws:∀x∈ws,x.bB=true)(hl:dQ l 8=some 19)(ha:a.eval (.tmp 19)=.pointer (some ⟨b,0,none⟩))(hb:bZ w b bX)(hBb:B<=b)(hg:w.grownBy w' (some b))(hr:bZ w' b SE):
  ∀p∈EvL B ws gl SE,10=p.1∨∀d,dQ l p.1=some d->p.2 1 w (a.eval (.tmp d))->p.2 2 w' (a.eval (.tmp d)):=by
 intro p hp;simp only[EvL,bf2,bf9,or_false]at hp;rcases hp with rfl | rfl | rfl | rfl | rfl | rfl | rfl | rfl
 ·exact .inr λd _ h=>ql.store h hws hb hg
 ·exact .inr λd _ ⟨x,u,h1,h2⟩=>⟨x,u,h1,h2.store hb hg⟩
 ·exact .inr λd _ ⟨x,u,h1,h2⟩=>⟨x,u,h1,h2.store hb hg⟩
 ·exact .inr λ_ _ _=>trivial
 ·exact .inr λd _ h=>xG.store h hb hg
 ·refine .inr λd hd _=>?_;rw[hl]at hd;cases hd
  exact⟨b,ha,hBb,hr⟩
 ·exact .inr λ_ _ _=>trivial
 exact .inr λd _ h=>xG.store h hb hg
def R6(wA:World)(gl:List Nat)(ws:List bg)(Eb s66:Value)(wr:World):Prop:=∃j:Nat,j<=gl.length/\s66=.int .i64 (j:Int)/\cK wr wA.heap.size Eb ((gl.take j).map λi=>ws.getD i bX)/\Bw wA wr
theorem CB {l:List bg}(h:dD l):∀x∈l,x.bB=true:=h.1
theorem Gj(a b c:Int)(k:List (BitVec 8)):prog.built 50 [(0,.bool true),(1,.agg #[.int .i64 a,Sv k,.int .i64 b,.int .i64 c])]=some #[.bool true,.int .i64 a,Sv k,.int .i64 b,.int .i64 c,.string ⟨#[]⟩,.int .i64 0,.int .i64 0,.int .i64 0,.slice none 0 0]:=by kernel_rfl
def EvA(wB:World)(lv:Value)(nl:List bn)(wb:Nat)(SE:bg)(pb:Nat)(X:bn)(ab:Nat)(oa:Option Addr)(olds:List bg)(w:World):Prop:=
 M5 wB lv nl w/\bZ w wb SE/\cz w pb X/\bR w X/\bW w ab X.p.a.n X.p.a.a X.tv X.z/\Ci w oa olds
theorem EvA.below {wB w w':World} {lv:Value} {nl:List bn} {wb:Nat} {SE:bg} {pb:Nat} {X:bn} {ab:Nat} {oa:Option Addr} {olds:List bg}(h:EvA wB lv nl wb SE pb X ab oa olds w)(hB:Bw w w'):EvA wB lv nl wb SE pb X ab oa olds w':=
 ⟨h.1.below hB,h.2.1.below hB,h.2.2.1.below hB,h.2.2.2.1.below hB,h.2.2.2.2.1.below hB,h.2.2.2.2.2.below hB⟩
theorem EvA.ww {wB w w':World} {lv ov:Value} {nl:List bn} {ol:List bM} {wb:Nat} {SE:bg} {pb:Nat} {X:bn} {ab:Nat} {oa:Option Addr} {olds:List bg}(h:EvA wB lv nl wb SE pb X ab oa olds w)(ho:fe w wB.heap.size ov ol)(hg:w.grownBy w' ov.ownBlock):EvA wB lv nl wb SE pb X ab oa olds w':=
 ⟨h.1.ww ho hg,zw ho hg h.2.1 (by decide),zw ho hg h.2.2.1 (by decide),⟨bA.ww h.2.2.2.1.1 ho hg,h.2.2.2.1.2⟩,zw ho hg h.2.2.2.2.1 (by decide),h.2.2.2.2.2.ww ho hg⟩
def EvW(q:bz)(nl:List bn)(ps:List bH)(W:bg)(X:bn):List (Nat × (Nat->World->Value->Prop)):=
 [(2,λ_ w v=>∃(L:List bn) (a_:Option Addr) (c_:Nat),v=.slice a_ L.length c_/\dI w a_ L/\L.map bn.p=gK q ps W/\∀y∈L,y∈nl),(4,λ_ w v=>∃L:List bn,bO w v L/\L.map bn.p=jR (gK q ps W) X.p/\∀y∈L,y=X∨y∈nl),
  (5,λ_ w v=>∃L:List bn,bO w v L/\L.map bn.p=jR (gK q ps W) X.p/\∀y∈L,y=X∨y∈nl)]
theorem Ng {q:bz} {nl:List bn} {ps:List bH} {W:bg} {X:bn}:∀p∈EvW q nl ps W X,∀k w w' v,Bw w w'->p.2 k w v->p.2 k w' v:=by
 intro p hp k w w' v hB h;simp only[EvW,bf2,bf9,or_false]at hp;rcases hp with rfl | rfl | rfl
 ·obtain⟨L,a,c,h1,h2,h3,h4⟩:=h;exact⟨L,a,c,h1,h2.below hB,h3,h4⟩
 ·obtain⟨L,h1,h2,h3⟩:=h;exact⟨L,h1.below hB,h2,h3⟩
 obtain⟨L,h1,h2,h3⟩:=h;exact⟨L,h1.below hB,h2,h3⟩
theorem G7(w:World)(q:bz)(m:Int)(pv:Value)(x:bN)(l:List bn)(hA:bO w pv l)(hG:∀y∈l,bR w y)(hR:fQ q ⟨m,l.map bn.p⟩=true)(hx:x.bB=true)(hx1:x.kind=1):
  Calls prog 42 #[.agg q.cells,.agg #[.int .i64 m,pv],.agg x.cells] w (jf w (kD q ⟨m,l.map bn.p⟩ x).1 (kD q ⟨m,l.map bn.p⟩ x).2.1 (kD q ⟨m,l.map bn.p⟩ x).2.2):=by
 have mixed:prog.follows .mixedOrders=true:=by kernel_rfl
 obtain⟨ps,hps⟩:=Nm (l.map bn.p);rw[<-hps]at hR ⊢;obtain⟨hq,hmb,TQ,hall,hpl⟩:=kI.1 hR;have hok:=xW hR;simp only at TQ hall hpl hok hmb;have hxb:(-1099511627776<=x.value/\x.value<=1099511627776)/\x.key.length<=1000000:=by
  unfold bN.bB at hx;rw[if_neg (by rw[hx1];decide)]at hx
  simp only[bf8,bf0]at hx;have hnm:=hx.2.1.2;unfold kr at hnm;simp only[bf8,bf0]at hnm;exact⟨hx.2.2,by omega⟩
 obtain⟨ws,hws⟩:=Nm (lM q x.key x.time);obtain⟨c0,hc0⟩:=Nm (⟨ps,[],true,0⟩:kg);obtain⟨P,hP⟩:=Nm (jf w (kD q ⟨m,ps⟩ x).1 (kD q ⟨m,ps⟩ x).2.1 (kD q ⟨m,ps⟩ x).2.2);rw[<-hP];obtain⟨v_,hv_⟩:=Nm (x.value);rw[<-hv_]at hxb;have TM:Hid (∀wz c,dC q m v_ ws c0=c->c.e≠0->Bw w wz->P (.returned (.tuple #[.agg #[.int .i64 m,pv],.slice none 0 0,.int .i64 c.e])) wz):=Lh (λwz c h he hB=>by
  rw[hv_,hws,hc0]at h;rw[hP,LA h he];exact⟨_,_,rfl,⟨pv,l,rfl,hA.below hB,λy hy=>(hG y hy).below hB,hps⟩,fw.nil _,hB⟩)
 have Vf:Hid (∀wz c ov nv nl,dC q m v_ ws c0=c->c.e=0->c.late=true->fw wz ov [sj x]->bO wz nv nl->(∀y∈nl,bR wz y)->nl.map bn.p=ps->Bw w wz->P (.returned (.tuple #[.agg #[.int .i64 m,nv],ov,.int .i64 0])) wz):=Lh (λwz c ov nv nl h he hl h1 h2 h3 h4 hB=>by
  rw[hv_,hws,hc0]at h;rw[hP,Ju h he hl];exact⟨_,_,rfl,⟨nv,nl,rfl,h2,h3,h4.symm⟩,h1,hB⟩)
 have VG:Hid (∀wz c,dC q m v_ ws c0=c->c.e=0->c.late=false->256<c.panes.length->Bw w wz->P (.returned (.tuple #[.agg #[.int .i64 m,pv],.slice none 0 0,.int .i64 30])) wz):=Lh (λwz c h he hl hn hB=>by
  rw[hv_,hws,hc0]at h;rw[hP,Jt h he hl hn];exact⟨_,_,rfl,⟨pv,l,rfl,hA.below hB,λy hy=>(hG y hy).below hB,hps⟩,fw.nil _,hB⟩)
 have Sl:Hid (∀wz c nv nl ov,dC q m v_ ws c0=c->c.e=0->c.late=false->¬256<c.panes.length->bO wz nv nl->(∀y∈nl,bR wz y)->c.panes=nl.map bn.p->fw wz ov c.outs->Bw w wz->P (.returned (.tuple #[.agg #[.int .i64 m,nv],ov,.int .i64 0])) wz):=Lh (λwz c nv nl ov h he hl hn h1 h2 h3 h4 hB=>by
  rw[hv_,hws,hc0]at h;rw[hP,LB h he hl hn];exact⟨_,_,rfl,⟨nv,nl,rfl,h1,h2,h3⟩,h4,hB⟩)
 obtain⟨sa,sc,hpv,hz1,hz2⟩:=hA.form;clear hz1 hz2;obtain⟨w1,hw1⟩:=Nm ((((w.alloc (.cells q.cells 23)).alloc (.cells #[.int .i64 m,pv] 29)).alloc (.cells x.cells 42)).alloc (.cells #[.int .i64 0,.slice none 0 0] 29));obtain⟨qb,Sm⟩:=Nm (w.heap.size);obtain⟨sb,hsb⟩:=Nm (w.heap.size+1);obtain⟨Eg,iq⟩:=Nm (w.heap.size+2);obtain⟨rb,hrb⟩:=Nm (w.heap.size+3);have H1:Hid (dn w1 qb q/\bT w1 sb m pv/\jy w1 Eg x/\bT w1 rb 0 bS/\Bw w w1/\w1.heap.size=w.heap.size+4):=by rw[hw1,Sm,hsb,iq,hrb];exact Lh (rY w q m pv x)
 have SA:Hid ((qb<w1.heap.size/\sb<w1.heap.size/\Eg<w1.heap.size/\rb<w1.heap.size)/\w.heap.size<=rb):=Lh ⟨by have:=H1.out.2.2.2.2.2;omega,by omega⟩
 have hn8:l.length<=256:=by rw[hps,bfz]at TQ;exact TQ
 have HA:Hid (bO w pv l/\(∀y∈l,bR w y)/\dL q ps 256/\ps=l.map bn.p/\c0=⟨ps,[],true,0⟩/\mf q m ps/\q.bB=true/\(-1099511627776<=v_/\v_<=1099511627776)):=Lh ⟨hA,hG,hok,hps,hc0,hall,hq,hxb.1⟩;have ZJ:Hid (ws.length<=16/\∀W∈ws,W.bB=true/\W.key.length<=1000000):=Lh ⟨by rw[hws];exact wS _ _ _,λW hW=>by
  rw[hws]at hW;obtain⟨_,h1,_,_,_,h2⟩:=qx hW;exact⟨h1,by rw[h2];exact hxb.2⟩⟩
 have Y5:Hid (∀W∈ws,W∈lM q x.key x.time):=Lh (λW h=>by rw[hws]at h;exact h)
 obtain⟨VQ,SS⟩:=Nm (Value.agg q.cells);have TJ:Hid (∀w' lv,bA w' lv [v_]->Calls prog 79 #[VQ,lv] w' (qH w' (kv q.agg v_) true)):=by
  rw[SS];exact Lh (λw' lv h=>Ke w' q v_ lv h hq hxb.1 (Bo hq hxb.1))
 have Xj:Hid (∀w',Calls prog 75 #[VQ,Sv x.key,.int .i64 x.time] w' (qI w' ws)):=by
  rw[SS,hws];exact Lh (λw'=>Hf w' q x.key x.time hxb.2)
 have V7:Hid (∀w' (W:bg),W.bB=true->Calls prog 71 #[VQ,.agg W.cells,.int .i64 m] w' (bE w' (.bool (gy q W m)))):=by
  rw[SS];exact Lh (λw' W h=>yR hq h w')
 have WR:Hid (∀w' (x y:dS) Sk z1 Sq z2,bA w' Sk x.top->dw z1 x.u x.v->bA w' Sq y.top->dw z2 y.u y.v->x.bB q=true->y.bB q=true->Calls prog 81 #[VQ,.agg (bI x.n x.a Sk z1),.agg (bI y.n y.a Sq z2)] w' (qH w' (dA q x y).1 (decide ((dA q x y).2=0)))):=by
  rw[SS];exact Lh (λw' x y Sk z1 Sq z2 h1 h2 h3 h4 h5 h6=>Kc w' q x y Sk z1 Sq z2 h1 h3 h2 h4 h5 h6)
 have iT:Hid (∀w' (x:bn),bR w' x->x.p.a.bB q=true->Calls prog 82 #[VQ,.agg (bI x.p.a.n x.p.a.a x.tv x.z)] w' (ni w' (dV q x.p.a))):=by
  rw[SS];exact Lh (λw' x h hn=>yV h hn)
 obtain⟨N,hN⟩:=Nm (ws.length);have HN:Hid (N=ws.length/\N<=16):=Lh ⟨hN,by rw[hN];exact ZJ.out.1⟩
 clear hP hA hG hok hx hx1 hps hws hc0 hN hq hmb TQ hall hpl hxb hR;obtain⟨Q,hQ⟩:=Nm q;rw[<-hQ]at H1 TM Vf VG Sl HA V7 WR iT Y5;obtain⟨X,hX⟩:=Nm x;rw[<-hX]at H1 Vf Xj Y5;have ZH:Hid (∀w' lv,bA w' lv [v_]->Calls prog 79 #[VQ,lv] w' (qH w' (kv Q.agg v_) true)):=by rw[hQ];exact TJ
 clear TJ;obtain⟨kind,size,slide,late,agg,kq⟩:=q;obtain⟨TB,ik,it,xv0⟩:=x;simp only at hv_;subst hv_;have Y7:Hid (X=⟨TB,ik,it,v_⟩/\X.key=ik/\X.time=it):=by rw[hX];exact Lh ⟨rfl,rfl,rfl⟩
 have VF:Hid (VQ=.agg #[.int .i64 kind,.int .i64 size,.int .i64 slide,.int .i64 late,.int .i64 agg,.int .i64 kq]):=Lh SS;have Vj:Hid (Q=⟨kind,size,slide,late,agg,kq⟩):=Lh hQ;have SV:Hid (∀w',dn w' qb Q->D6 w' qb kind size slide late agg kq):=by rw[hQ];exact Lh (λw' h=>h.d6)
 have Vu:Hid (∀w',jy w' Eg X->DX w' Eg TB ik it v_):=by rw[hX];exact Lh (λw' h=>h.dx)
 rw[Y7.out.2.1,Y7.out.2.2,VF.out]at Xj;rw[VF.out]at ZH V7 WR iT;clear SS hQ hX;obtain⟨n,hn⟩:=Nm (l.length);rw[<-hn]at hpv;have HNn:=Lh hn;clear hn;subst hpv;unfold bz.cells bN.cells at hw1 ⊢;simp only at hw1;have hs1:(w.alloc (.cells #[.int .i64 kind,.int .i64 size,.int .i64 slide,.int .i64 late,.int .i64 agg,.int .i64 kq] 23)).heap.size=w.heap.size+1:=bq w _;have hs2:((w.alloc (.cells #[.int .i64 kind,.int .i64 size,.int .i64 slide,.int .i64 late,.int .i64 agg,.int .i64 kq] 23)).alloc (.cells #[.int .i64 m,.slice sa n sc] 29)).heap.size=w.heap.size+2:=by rw[bq,bq]
 have hs3:(((w.alloc (.cells #[.int .i64 kind,.int .i64 size,.int .i64 slide,.int .i64 late,.int .i64 agg,.int .i64 kq] 23)).alloc (.cells #[.int .i64 m,.slice sa n sc] 29)).alloc (.cells #[.int .i64 TB,Sv ik,.int .i64 it,.int .i64 v_] 42)).heap.size=w.heap.size+3:=by rw[bq,bq,bq]
 obtain⟨d0,d1,d2,d3,d4,d5⟩:=SV.out w1 H1.out.1;obtain⟨e0,e1⟩:=H1.out.2.1.d2;obtain⟨x0,x1,x2,x3⟩:=Vu.out w1 H1.out.2.2.1;go_enter func42,ntmps42;go_upto_region 1 with(fail);rw[<-hw1,<-hrb,<-iq,<-hsb,<-Sm];clear hw1 hrb iq hsb Sm hs1 hs2 hs3;go_upto_region 4 with(fail);refine bg4 ?_
 iterate 12 go_step
 obtain⟨w2,hw2⟩:=Nm (w1.alloc (.cells #[.int .i64 v_] 3));obtain⟨ib,hib⟩:=Nm (w1.heap.size);have H2:Hid (bA w2 (.slice (some ⟨ib,0,none⟩) 1 1) [v_]/\Bw w1 w2):=by
  rw[hw2,hib];exact Lh ⟨bA.cell1 (bg5 w1 _),(Below.refl _ w1).alloc (bfx _) _⟩
 rw[<-hw2,<-hib];clear hw2 hib d0 d1 d2 d3 d4 d5 e0 e1 x0 x1 x2 x3;refine wpList_plain rfl λK' hK'=>?_;go_step;refine(ZH.out w2 _ H2.out.1).mono ?_;rintro e w3 ⟨XU,oz,rfl,EN,EO,hB⟩;refine hK' _ _ ?_;obtain⟨Vq,hon⟩:=Nm (kv Q.agg v_);rw[<-hon]at EN EO;rw[<-hon];have H3:Hid (bA w3 XU Vq.top/\dw oz Vq.u Vq.v/\Bw w1 w3/\Vq=kv Q.agg v_/\Vq.bB Q=true):=Lh ⟨EN,EO,H2.out.2.trans (hB.mono H2.out.2.size),hon,by rw[hon];exact Bo HA.out.2.2.2.2.2.2.1 HA.out.2.2.2.2.2.2.2⟩
 have aY:XU.oneCell'=true/\oz.oneCell'=true:=⟨EN.one,EO.1.one⟩;clear hK' hB EN EO hon H2
 iterate 12 go_step
 refine bg6 rfl _ _ _ rfl w3.heap.size (bI Vq.n Vq.a XU oz) rfl rfl 53 dE (bg5 w3 _) bV rfl (kN aY.1 aY.2) ?_;obtain⟨w4,hw4⟩:=Nm ((w3.alloc (Obj.cells dE 53)).setRow w3.heap.size (bI Vq.n Vq.a XU oz));obtain⟨ob,Vm⟩:=Nm (w3.heap.size);have H4:Hid (bW w4 ob Vq.n Vq.a XU oz/\Bw w1 w4/\bA w4 XU Vq.top):=by
  obtain⟨k1,k2⟩:=lZ w3 Vq.n Vq.a XU oz;rw[<-hw4]at k1 k2;rw[Vm];exact Lh ⟨k1,H3.out.2.2.1.trans (k2.mono H3.out.2.2.1.size),H3.out.1.below k2⟩
 have Wh:(w3.alloc (Obj.cells #[.int .i64 0,.int .i64 0,.slice none 0 0,.complex .f64 0 0] 53)).setRow w3.heap.size (bI Vq.n Vq.a XU oz)=w4:=hw4.symm;rw[Wh,<-Vm];clear hw4 Wh Vm aY;obtain⟨d0,d1,d2,d3,d4,d5⟩:=SV.out w4 (H1.out.1.below H4.out.2.1);obtain⟨x0,x1,x2,x3⟩:=Vu.out w4 (H1.out.2.2.1.below H4.out.2.1);go_wp2_with(fail);refine(Xj.out w4).mono ?_;rintro e wB ⟨wa,wc,rfl,hwc,hWA,hB⟩;have HB0:Hid (dn wB qb Q/\bT wB sb m (.slice sa n sc)/\jy wB Eg X/\bT wB rb 0 bS/\bW wB ob Vq.n Vq.a XU oz/\bA wB XU Vq.top/\dF wB wa ws/\Bw w wB):=by
  obtain⟨j1,j2,j3,j4,j5,_⟩:=H1.out;have hb1:=H4.out.2.1.trans (hB.mono H4.out.2.1.size);exact Lh ⟨j1.below hb1,j2.below hb1,j3.below hb1,j4.below hb1,H4.out.1.below hB,H4.out.2.2.below hB,hWA,Tb j5 hb1⟩
 have Ez:=Lh (bfy H3.out.2.1 H3.out.2.2.2);rw[<-HN.out.1];clear hB hwc hWA d0 d1 d2 d3 d4 d5 x0 x1 x2 x3 H1 H4 H3;dsimp only;go_wp2_with(fail);go_loopw[9,10,11,47] (KJ wB Q m v_ ws c0 ps) (λ_ _ _ i _=>N-(intOf i).toNat)
 case atStart=>
  refine⟨0,bgi _,rfl,l,[],false,rfl,bfx _,?_,?_,?_,λ_=>⟨HA.out.2.2.2.1.symm,rfl⟩,⟨HA.out.1.below HB0.out.2.2.2.2.2.2.2,λy hy=>(HA.out.2.1 y hy).below HB0.out.2.2.2.2.2.2.2,Br⟩,fe.nil _ _,λy hy=>by simp at hy⟩
  ·rw[List.drop_zero,HA.out.2.2.2.2.1,HA.out.2.2.2.1];rfl
  ·rw[<-HA.out.2.2.2.1];exact HA.out.2.2.1
  rw[<-HA.out.2.2.2.1];exact HA.out.2.2.2.2.2.1
 case round=>
  obtain⟨i,hi,rfl,nl,ol,tk,rfl,hol,hwq,hok,hao,Ad,hE,ZM,Zf⟩:=hrel;rw[<-HN.out.1]at hi;obtain⟨na,nc,hlv,_,_⟩:=hE.1.form;obtain⟨nn,hnn⟩:=Nm (nl.length);rw[<-hnn]at hlv;obtain⟨ov,hov⟩:=Nm u10;rw[<-hov]at ZM;rw[<-hov];subst hlv;have HO:Hid (ol.length<=i/\dC Q m v_ ws c0=dC Q m v_ (ws.drop i) ⟨nl.map bn.p,ol.map bM.o,!tk,0⟩/\dL Q (nl.map bn.p) (256+i)/\mf Q m (nl.map bn.p)/\(tk=false->nl.map bn.p=ps/\ol=[])/\nn=nl.length/\nn<=272):=Lh ⟨hol,hwq,hok,hao,Ad,hnn,by have h:=hok.2.2;rw[bfz]at h;have:=HN.out.2;omega⟩
  have HR:Hid (M5 wB (.slice na nn nc) nl wr/\fe wr wB.heap.size ov ol/\∀y∈ol,dO wr y):=Lh ⟨hE,ZM,Zf⟩;clear hol hwq hok hao Ad hE ZM Zf hnn hov;by_cases hlt:i<N
  ·have OB:N<=16:=HN.out.2;have hi0:(0:Int)<=(i:Int)/\(i:Int)<(N:Int):=by omega
   obtain⟨W,pa,Tu,hx,hsa,c0',c1,c2⟩:=(HB0.out.2.2.2.2.2.2.1.below HR.out.1.2.2).get (t:=i) (by rw[<-HN.out.1];exact hlt)
   subst hsa;have HX:Hid (W∈ws/\ws[i]? =some W/\i<N):=Lh ⟨bf3 hx,hx,hlt⟩;clear hx hi hlt;obtain⟨W_,XP⟩:=Nm (W:bg);rw[<-XP]at HX;obtain⟨wk,wl,wh⟩:=W;simp only at c0' c1 c2;go_upto_region 7 with(fail);refine bg4 ?_
   iterate 9 go_step
   refine bg6 rfl _ _ _ rfl wr.heap.size (bg.mk wk wl wh).cells rfl rfl 47 bX.cells (bg5 wr _) dh rfl (dH _) ?_;obtain⟨wx,hwx⟩:=Nm ((wr.alloc (Obj.cells #[.string ⟨#[]⟩,.int .i64 0,.int .i64 0] 47)).setRow wr.heap.size (bg.mk wk wl wh).cells);obtain⟨iy,eX⟩:=Nm (wr.heap.size);have Sn:Hid (bZ wx iy W_/\Bw wr wx):=by
    obtain⟨k1,k2⟩:=dW wr (bg.mk wk wl wh);rw[hwx,eX,XP];exact Lh ⟨k1,k2⟩
   rw[<-hwx,<-eX];clear hwx eX c0' c1 c2;have XL:Hid (∀w' b,bZ w' b W_->D3 w' b wk wl wh):=by rw[XP];exact Lh (λw' b h=>h.d3)
   have Y6:Hid (W_=⟨wk,wl,wh⟩):=Lh XP;have XM:=Lh (ZJ.out.2 W_ HX.out.1);clear XP;obtain⟨f0,f1,f2⟩:=XL.out wx _ Sn.out.1;go_upto_region 8 with(fail);refine bg4 ?_
   iterate 6 go_step
   refine bg6 rfl _ _ _ rfl wx.heap.size (bg.mk wk wl wh).cells rfl rfl 47 bX.cells (bg5 wx _) dh rfl (dH _) ?_;obtain⟨wy,Sy⟩:=Nm ((wx.alloc (Obj.cells #[.string ⟨#[]⟩,.int .i64 0,.int .i64 0] 47)).setRow wx.heap.size (bg.mk wk wl wh).cells);obtain⟨wb,hwb⟩:=Nm (wx.heap.size);have TG:Hid (bZ wy iy W_/\bZ wy wb W_/\Bw wr wy/\wr.heap.size<=wb):=by
    obtain⟨k1,k2⟩:=dW wx (bg.mk wk wl wh);rw[Sy,hwb,Y6.out];rw[Y6.out]at Sn;exact Lh ⟨Sn.out.1.below k2,k1,Sn.out.2.trans (k2.mono Sn.out.2.size),Sn.out.2.size⟩
   rw[<-Sy,<-hwb];clear Sy hwb f0 f1 f2 Sn;have EH:=Lh (HR.out.1.below TG.out.2.2.1);obtain⟨d0,d1,d2,d3,d4,d5⟩:=SV.out wy (HB0.out.1.below EH.out.2.2);obtain⟨SC,Ao⟩:=Nm (nl.map bn.p);have Tz:Hid (SC=nl.map bn.p):=Lh Ao;clear Ao;obtain⟨SE,Tj⟩:=Nm (dN Q SC W_);have YF:Hid (SE=dN Q SC W_/\SE.bB=true/\SE.key.length<=1000000):=by
    have h1:SE.bB=true:=by
     rw[Tj,dN]
     split
     ·exact(jh (l:=fI SC) XM.out.1).1
     exact XM.out.1
    exact Lh ⟨Tj,h1,by rw[Tj,zH XM.out.1];exact XM.out.2⟩
   clear Tj;obtain⟨b3,hb3⟩:∃b,(kind==3)=b:=⟨_,rfl⟩;go_upto_if 54 with(fail);have HB3:=Lh hb3;clear hb3 d0 d1 d2 d3 d4 d5;go_cut[17,18,19,20,22,47]from 47 to 166 (λEb _ _ _ _ Ed wx=>KI wr wb Q SC W_ i Eb Ed wx)
   case first=>
    cases b3 with
    | true=>
     have hk3:kind=3:=by simpa using HB3.out
     have ZR:Q.kind=3:=by rw[Vj.out];exact hk3
     have ut:Hid (dD (fI SC)):=by
      have h:=HO.out.2.2.1.1;rw[<-Tz.out]at h;unfold fH at h;rw[if_pos ZR]at h;exact Lh (bgh h)
     have hlp:SC.length=nn:=by rw[Tz.out,bfz,HO.out.2.2.2.2.2.1]
     have VD:Hid ((fI SC).length=nn/\SC.length=nn):=Lh ⟨by rw[fI,bfz,hlp],hlp⟩
     have hbq:SE=became (fI SC) W_:=by rw[YF.out.1,dN,if_pos ZR]
     obtain⟨gl,hgl⟩:=Nm (lJ (fI SC) W_);have WO:Hid (Mh SC W_=gl.map (λi=>(fI SC).getD i bX)/\(∀i∈gl,i<nn)/\gl.length<=nn):=by
      rw[hgl];refine Lh ⟨rfl,λi hi=>?_,?_⟩
      ·have h:=List.mem_range.1 (List.mem_filter.1 hi).1;rw[VD.out.1]at h;exact h
      unfold lJ;have h:=List.length_filter_le (λi=>dK ((fI SC).getD i bX) W_) (List.range (fI SC).length);have h2:=VD.out.1;rw[List.length_range]at h;omega
     have Xl:Hid (∀w',Bw wy w'->Calls prog 77 #[.slice na nn nc] w' (jU w' (fI SC))):=by
      refine Lh (λw' hB=>?_);obtain⟨a',c',e,_,hat⟩:=(EH.out.below hB).1.form;have e1:na=a':=by injection e
      rw[e1,HO.out.2.2.2.2.2.1];have h:=qf w' a' nc nl hat (by have:=HO.out.2.2.2.2.2;omega)
      have e2:fI SC=nl.map λx=>x.p.w:=by rw[Tz.out,fI,List.map_map];rfl
      rw[e2];exact h
     have WV:Hid (∀w' a c,dF w' a (fI SC)->Calls prog 80 #[.slice a nn c,.agg #[Sv wk,.int .i64 wl,.int .i64 wh]] w' (sP w' (mq (fI SC) W_) SE gl)):=by
      refine Lh (λw' a c h=>?_);have h3:=Kg w' a c (fI SC) W_ h (λy hy=>by have:=cu (ut.out.1 y hy);omega) XM.out.2 (by rw[VD.out.1];have:=HO.out.2.2.2.2.2;omega)
      rw[VD.out.1,<-hbq,<-hgl]at h3;rw[Y6.out]at h3 ⊢;exact h3
     have SB:Hid (Bw wy wy.drew):=Lh (Below.refl _ wy).drew;have Ey:Hid (nY Q SC W_ (Mh SC W_)):=Lh (nY.session ZR (by rw[VD.out.2];have:=HO.out.2.2.2.2.2;omega))
     have iI:∀w',Bw wy w'->∃b,Value.pointer (some ⟨w'.heap.size,0,none⟩)=.pointer (some ⟨b,0,none⟩)/\wy.heap.size<=b/\bZ (w'.alloc (.cells bX.cells 47)) b (if 1<=1 then bX else SE):=λw' h=>⟨_,rfl,h.size,bg5 w' _⟩
     clear hk3 ZR hlp hbq hgl;go_upto_region 11 with(fail);refine dZ (λi=>([]:List Nat).contains i) (by kernel_rfl) (NoF [none,none,none,some 0,none,some 1,none]) [8,10] (DT ((Value.slice na nn nc)::undef::(Value.agg #[Sv wk,.int .i64 wl,.int .i64 wh])::undef::undef::undef::(.agg SE.cells)::([undef,undef,undef,undef,undef]:List Value)) (EvL wy.heap.size (fI SC) gl SE)) (λ_ w'=>Bw wy w') (λw w'=>Bw w w') (lX _ _ QD) (by kernel_rfl) (by kernel_rfl) (by kernel_rfl) SB.out (λ_=>⟨rfl,rfl,rfl,rfl,rfl,rfl,rfl,rfl,rfl,rfl,rfl,rfl,trivial⟩) (λ_ h=>by simp at h) ?_ ?_
     ·refine ⟨?_,?_,?_,?_,?_,?_,?_,?_,?_,?_,?_,?_,trivial⟩<;>(first|(intro _ _ a w' hG Si Sj K hK;guard_hyp w':World)|intro _ a w' hG Si Sj K hK)<;>replace Si:=Lh Si<;>replace Sj:=Lh Sj
      have q9:=FoA Si 9 (.slice na nn nc);rotate_left
      ·have q56:=Ep a 56 (.slice na nn nc) Sj.out.1;go_step;refine(Xl.out w' hG).mono ?_;rintro e w3 ⟨v,rfl,hO,hB⟩;obtain⟨a',c',hv,hc,hA⟩:=hO.form;exact hK _ _ ⟨a',c',hv,hc,hA⟩ (Tb hG hB) hB
      have Xv:=FaA Si 15 iy 0;obtain⟨e0,e1,e2⟩:=XL.out w' iy (TG.out.1.below hG);rotate_left
      ·obtain ⟨p0,_,_⟩:=Sj.out;obtain⟨a1,c1,hv,hc1,hA1⟩:=(show ql w' (a.eval (.tmp 57)) (fI SC)from p0);have q58:=Ep a 58 (.agg #[Sv wk,.int .i64 wl,.int .i64 wh]) Sj.out.2.1;rw[VD.out.1]at hv;have q57:=bf hv;have HS:=Lh (WV.out w' a1 c1 hA1);clear hA1 hv hc1;go_step;refine HS.out.mono ?_;rintro e w3 ⟨x,u,rfl,h1,h2,hB⟩;exact hK _ _ ⟨x,u,rfl,_,h2⟩ (Tb hG hB) hB
      ·obtain ⟨p0,_⟩:=Sj.out;obtain⟨x,u,hv,hu⟩:=(show ∃x u,a.eval (.tmp 59)=.tuple #[x,.agg SE.cells,u]/\xG w' u gl from p0);have q59:=bf hv;clear hv;go_step;exact hK _ _ ⟨x,u,rfl,hu⟩ hG Br
      ·obtain ⟨p0,_⟩:=Sj.out;obtain⟨x,u,hv,hu⟩:=(show ∃x u,a.eval (.tmp 55)=.tuple #[x,.agg SE.cells,u]/\xG w' u gl from p0);have ZA:=bf hv;clear hv;go_step;exact hK _ _ trivial hG Br
      obtain ⟨p0,_⟩:=Sj.out;obtain⟨x,u,hv,hu⟩:=(show ∃x u,a.eval (.tmp 55)=.tuple #[x,.agg SE.cells,u]/\xG w' u gl from p0);have ZA:=bf hv;clear hv;rotate_left
      ·obtain ⟨p0,_⟩:=Sj.out;obtain⟨x,u,hv,hu⟩:=(show ∃x u,a.eval (.tmp 55)=.tuple #[x,.agg SE.cells,u]/\xG w' u gl from p0);have ZA:=bf hv;clear hv;go_step;exact hK _ _ hu hG Br
      ·go_step;exact hK _ _ (iI w' hG) (hG.trans (((Below.refl _ w').alloc (bfx _) _).mono hG.size)) (gN _ (Lc ((Below.refl _ w').alloc (bfx _) _)))
      ·obtain ⟨p0,_⟩:=Sj.out;obtain _:=(show True from p0);obtain⟨v60,Av⟩:∃v,a.eval (.tmp 60)=v:=⟨_,rfl⟩;have q60:=bf Av;clear Av;go_step;exact hK _ _ trivial hG Br
      ·obtain⟨p0,p1,_⟩:=Sj.out;obtain⟨b,hv,WW,hrow⟩:=(show ∃b,a.eval (.tmp 19)=.pointer (some ⟨b,0,none⟩)/\wy.heap.size<=b/\bZ w' b (if 1<=1 then bX else SE)from p0)
       have r61:=(show a.eval (.tmp 61)=(.agg SE.cells)from p1);rw[if_pos (bfx 1)]at hrow;refine tZ (.tmp 19) (.tmp 61) rfl b SE bX hv r61 hrow ?_;have hg:=bC w' b SE.cells;exact hK _ _ rfl (hG.trans ⟨hg.os,hg.tape,hg.output,hg.size,λk hk=>hg.block k (by have:=hG.size;omega) (by simp;omega)⟩) (gN _ (Nf (CB ut.out) rfl hv hrow WW hg (hrow.reset SE)))
      ·obtain ⟨p0,_⟩:=Sj.out;obtain hu:=(show xG w' (a.eval (.tmp 62)) gl from p0);obtain⟨v62,Aw⟩:∃v,a.eval (.tmp 62)=v:=⟨_,rfl⟩;rw[Aw]at hu;have q62:=bf Aw;go_step;exact hK _ _ hu hG Br
      all_goals(go_step;exact hK _ _ rfl hG Br)
     intro vs w5 hG hlen hV
     match vs,hlen,hV with
     | [v0,v1,v2,v3,v4,v5,v6,v7,v8,v9,v10,v11],_,hV=>
      have hgv:=(show xG w5 v11 gl from hV 11 20 v11 rfl rfl);obtain⟨tb,hvb,htb,hrow⟩:=(show ∃b,v8=.pointer (some ⟨b,0,none⟩)/\wy.heap.size<=b/\bZ w5 b (if 2<=1 then bX else SE)from hV 8 19 v8 rfl rfl)
      rw[if_neg (by decide)]at hrow
      obtain⟨ga,gc,hgf⟩:=hgv.form;obtain⟨ng,Yp⟩:=Nm (gl.length);rw[<-Yp]at hgf;subst hgf hvb;clear hV;have H2:Hid (xG w5 (.slice ga ng gc) gl/\bZ w5 tb SE/\Bw wy w5/\ng=gl.length):=Lh ⟨hgv,hrow,hG,Yp⟩;clear hgv hrow hG htb Yp hlen;simp only[dG,bf7,bf1];simp only[Act.put,bfw,bfu,bfv];obtain⟨bec_,hbe⟩:=Nm (SE:bg);rw[<-hbe]at YF;obtain⟨bk,bl,bh⟩:=SE;obtain⟨f0,f1,f2⟩:=H2.out.2.1.d3;go_upto_region 12 with(fail);refine bg4 ?_
      iterate 3 go_step
      refine bg6 rfl _ _ _ rfl wb (bg.mk bk bl bh).cells rfl rfl 47 W_.cells (TG.out.2.1.below H2.out.2.2.1) dh rfl (dH _) ?_;obtain⟨w6,SN⟩:=Nm (w5.setRow wb (bg.mk bk bl bh).cells);have H6:Hid (xG w6 (.slice ga ng gc) gl/\bZ w6 wb (dN Q SC W_)/\Bw wr w6/\ng=gl.length):=by
       have hg:w5.grownBy w6 (some wb):=by rw[SN];exact bC _ _ _
       have hr:=TG.out.2.1.below H2.out.2.2.1;have hB:=TG.out.2.2.1.trans (H2.out.2.2.1.mono TG.out.2.2.1.size);refine Lh ⟨H2.out.1.store hr hg,?_,hB.trans (bG hg TG.out.2.2.2 hB.size),H2.out.2.2.2⟩;rw[<-YF.out.1,hbe,SN];exact hr.reset _
      rw[<-SN];clear SN f0 f1 f2 H2 hbe;have Yp:ng<=272:=by have:=WO.out.2.2;have:=H6.out.2.2.2;have:=HO.out.2.2.2.2.2.2;omega
      obtain⟨wo,rfl⟩:∃x,x=wr:=⟨wr,rfl⟩;go_wp2_with(fail);go_loopw[17,66] (R6 w6 gl (fI SC)) (λ_ k _=>ng-(intOf k).toNat)
      case atStart=>exact⟨0,bgi _,rfl,cK.nil _ _,Br⟩
      case round=>
       obtain⟨j,hj,rfl,S9,hB⟩:=hrel;rw[<-H6.out.2.2.2]at hj;obtain⟨vb,hvb⟩:=Nm u17;rw[<-hvb]at S9;rw[<-hvb];have HJ:=Lh (bfy S9 hB);clear S9 hB hvb;by_cases hlt:j<ng
       ·have hj0:(0:Int)<=(j:Int)/\(j:Int)<(ng:Int):=by omega
        obtain⟨gj,hgj⟩:∃g,gl[j]? =some g:=⟨_,bfs (by rw[<-H6.out.2.2.2];exact hlt)⟩
        have hgn:gj<nn:=WO.out.2.1 gj (bf3 hgj);obtain⟨y,pa2,po2,hy,Yr,c0,c1,c2,_⟩:=(show dI wr na nl by
         obtain⟨a',c',e,_,hat⟩:=(HR.out.1.below (H6.out.2.2.1.trans (HJ.out.2.mono H6.out.2.2.1.size))).1.form;have e1:na=a':=by injection e
         rw[e1];exact hat).get (t:=gj) (by rw[<-HO.out.2.2.2.2.2.1];exact hgn)
        subst Yr;obtain⟨gb0,rfl,hgc⟩:=(H6.out.1.below HJ.out.2).get hgj;have hg0:(0:Int)<=(gj:Int)/\(gj:Int)<(nn:Int):=by omega
        have HY:Hid ((fI SC).getD gj bX=y.p.w/\gl.take (j+1)=gl.take j++[gj]/\j<ng):=by
         refine Lh ⟨?_,by rw[List.take_add_one,hgj];rfl,hlt⟩
         rw[List.getD_eq_getElem?_getD,Tz.out,fI,List.map_map,bgf,hy];rfl
        clear hj hlt hgj hgn hy;obtain⟨⟨⟨yk,yl,yh⟩,ya,yr⟩,Vd,yz,Tv,VC⟩:=y;simp only at c0 c1 c2;go_upto_region 16 with(fail);refine bg4 ?_
        iterate 18 go_step
        refine fE rfl (.tmp 75) rfl ⟨yk,yl,yh⟩ rfl ?_;obtain⟨w8,hw8⟩:=Nm (wr.alloc (.cells (bg.mk yk yl yh).cells 47));obtain⟨gb,hgb⟩:=Nm (wr.heap.size);have H8:Hid (cK w8 w6.heap.size vb ((gl.take j).map λi=>(fI SC).getD i bX)/\Bw w6 w8/\(∀j z,(bg.mk yk yl yh).cells[j]? =some z->w8.cell? ⟨gb,j,none⟩=some z)):=by
         have hB:Bw wr w8:=by rw[hw8];exact(Below.refl _ wr).alloc (bfx _) _
         refine Lh ⟨HJ.out.1.far hB,HJ.out.2.trans (hB.mono HJ.out.2.size),λj z hz=>?_⟩;rw[hw8,hgb,cell_of_row _ _ _ _ _ _ (bg5 wr _)];exact hz
        rw[<-hw8,<-hgb];clear hw8 hgb c0 c1 c2 hgc;refine jZ rfl (.tmp 70) (.tmp 76) rfl w6.heap.size vb ((gl.take j).map λi=>(fI SC).getD i bX) rfl H8.out.1 ⟨yk,yl,yh⟩ gb rfl H8.out.2.2 (by rw[bfz,bga];have:=HY.out.2.2;have:=WO.out.2.2;have:=H6.out.2.2.2;have:=HO.out.2.2.2.2.2.2;omega) H8.out.2.1.size ?_
        intro v' w9 g1 g2 g3;have H9:Hid (R6 w6 gl (fI SC) v' (.int .i64 ((j:Int)+1)) w9):=by
         refine Lh ⟨j+1,by rw[<-H6.out.2.2.2];exact HY.out.2.2,by go_num,?_,H8.out.2.1.trans (cK.below H8.out.1 g2 H8.out.2.1.size)⟩
         rw[HY.out.2.1,bgl,List.map_singleton,HY.out.1];exact g1
        have SX:=Lh HY.out.2.2;clear g1 g2 g3;go_wp2_with(fail);go_roundw
        case rel=>exact H9.out
        case measure=>have:=SX.out;simp[intOf];omega
       obtain rfl:j=ng:=by omega
       obtain⟨a9,c9,YA,_,_⟩:=HJ.out.1.form;have Za:=HJ.out.1;rw[YA]at Za;replace Za:=cK.typed Za;have hall:gl.take j=gl:=by rw[H6.out.2.2.2,bgs]
       rw[hall,<-WO.out.1]at YA Za;have HZ:Hid (KI wo wb Q SC W_ i vb (.int .i64 (i:Int)) wr):=Lh ⟨rfl,a9,c9,Mh SC W_,YA,Ey.out,Za,H6.out.2.1.below HJ.out.2,H6.out.2.2.1.trans (HJ.out.2.mono H6.out.2.2.1.size)⟩;clear hlt hj YA Za hall;go_wp2_with(fail);go_meet;exact HZ.out
    | false=>
     have hk3:kind≠3:=by simpa using HB3.out
     have ZR:Q.kind≠3:=by rw[Vj.out];exact hk3
     have hbq:dN Q SC W_=W_:=by rw[dN,if_neg ZR]
     obtain⟨hs,eF⟩:=Nm (decide (W_∈fI SC));have Xl:Hid (∀w',Bw wy w'->Calls prog 77 #[.slice na nn nc] w' (jU w' (fI SC))):=by
      refine Lh (λw' hB=>?_);obtain⟨a',c',e,_,hat⟩:=(EH.out.below hB).1.form;have e1:na=a':=by injection e
      rw[e1,HO.out.2.2.2.2.2.1];have h:=qf w' a' nc nl hat (by have:=HO.out.2.2.2.2.2;omega)
      have e2:fI SC=nl.map λx=>x.p.w:=by rw[Tz.out,fI,List.map_map];rfl
      rw[e2];exact h
     have ZF:Hid (∀w' a c,dF w' a (fI SC)->Calls prog 74 #[.slice a (fI SC).length c,.agg #[Sv wk,.int .i64 wl,.int .i64 wh]] w' (bE w' (.bool hs))):=by
      refine Lh (λw' a c h=>?_);have h3:=tX w' a c (fI SC) W_ h (by rw[Tz.out,fI,bfz,bfz];have:=HO.out.2.2.2.2.2;omega)
      rw[<-eF]at h3;rw[Y6.out]at h3;exact h3
     have SB:Hid (Bw wy wy.drew):=Lh (Below.refl _ wy).drew;have Ey:Hid (nY Q SC W_ (if hs=true then [W_]else [])/\dN Q SC W_=W_):=by
      have h:=nY.plain (q:=Q) (ps:=SC) (W:=W_) ZR;rw[eF];refine Lh ⟨?_,hbq⟩;by_cases hm:W_∈fI SC
      ·rw[if_pos hm]at h;rw[if_pos (bfr hm)];exact h
      rw[if_neg hm]at h;rw[if_neg (by simpa using hm)]
      exact h
     clear hk3 ZR hbq eF;go_upto_region 18 with(fail);refine bD (λi=>([]:List Nat).contains i) (by kernel_rfl) [none,none,none,none] [] (V4 (([.slice na nn nc,undef,.agg #[Sv wk,.int .i64 wl,.int .i64 wh],.bool hs]:List Value)) 1 (λ_ w v=>ql w v (fI SC)) 99 (λ_ _ _=>True) 99 (λ_ _ _=>True) 99 (λ_ _ _=>True)) (λ_ w'=>Bw wy w') (λw w'=>Bw w w') (qm _ (λ_ _ _ _ hB h=>ql.below h hB) (λ_ _ _ _ _ h=>h) (λ_ _ _ _ _ h=>h) (λ_ _ _ _ _ h=>h)) (by kernel_rfl) (by kernel_rfl) (by kernel_rfl) SB.out (λ_=>⟨rfl,rfl,rfl,rfl,trivial⟩) (λ_ h=>by simp at h) ?_ ?_
     ·refine ⟨?_,?_,?_,?_,trivial⟩<;>intro _ _ a w' hG Si Sj K hK<;>replace Si:=Lh Si<;>replace Sj:=Lh Sj
      have q9:=FoA Si 9 (.slice na nn nc);rotate_left
      ·have Ur:=Ep a 79 (.slice na nn nc) Sj.out.1;go_step;refine(Xl.out w' hG).mono ?_;rintro e w3 ⟨v,rfl,hO,hB⟩;obtain⟨a',c',hv,hc,hA⟩:=hO.form;exact hK _ _ ⟨a',c',hv,hc,hA⟩ (Tb hG hB) hB
      have Xv:=FaA Si 15 iy 0;obtain⟨e0,e1,e2⟩:=XL.out w' iy (TG.out.1.below hG);rotate_left
      ·obtain ⟨p0,_,_⟩:=Sj.out;obtain⟨a1,c1,hv,hc1,hA1⟩:=(show ql w' (a.eval (.tmp 80)) (fI SC)from p0);have Us:=Ep a 81 (.agg #[Sv wk,.int .i64 wl,.int .i64 wh]) Sj.out.2.1;have E8:=bf hv;have HS:=Lh (ZF.out w' a1 c1 hA1);clear hA1 hv hc1;go_step;refine HS.out.mono ?_;rintro e w3 ⟨rfl,hB⟩;exact hK _ _ rfl (Tb hG hB) hB
      all_goals(go_step;exact hK _ _ rfl hG Br)
     intro vs w5 hG hlen hV
     match vs,hlen,hV with
     | [v0,v1,v2,v3],_,hV=>
      obtain rfl:v3=.bool hs:=hV 3 82 v3 rfl rfl;simp only[dG,bf7,bf1];simp only[Act.put,bfw,bfu,bfv];have H5:=Lh hG;clear hG hV hlen
      cases hs with
      | true=>
       obtain⟨f0,f1,f2⟩:=XL.out w5 iy (TG.out.1.below H5.out);go_upto_region 19 with(fail);refine bg4 ?_
       iterate 3 go_step
       refine fE rfl (.tmp 83) rfl ⟨wk,wl,wh⟩ rfl ?_;obtain⟨w8,hw8⟩:=Nm (w5.alloc (.cells (bg.mk wk wl wh).cells 47));obtain⟨gb,hgb⟩:=Nm (w5.heap.size);have HZ:Hid (KI wr wb Q SC W_ i (.slice (some ⟨gb,0,none⟩) 1 1) (.int .i64 (i:Int)) w8):=by
        have hB:Bw w5 w8:=by rw[hw8];exact(Below.refl _ w5).alloc (bfx _) _
        have hB2:=Tb H5.out hB;have h:=Ey.out;rw[if_pos rfl]at h;refine Lh ⟨rfl,_,1,[W_],rfl,h.1,⟨.inr ⟨gb,0,rfl,λa x hx b z hz=>?_⟩,.inr ⟨gb,0,_,rfl,by rw[hw8,hgb];exact bg5 w5 _⟩⟩,by rw[h.2];exact TG.out.2.1.below hB2,TG.out.2.2.1.trans (hB2.mono TG.out.2.2.1.size)⟩
        cases a with
        | zero=>
         simp only[bgp,bf5]at hx;rw[<-hx,Y6.out]at hz;rw[show 0+0*3+b=b by omega,hw8,hgb,cell_of_row _ _ _ _ _ _ (bg5 w5 _)]
         exact hz
        | succ a=>simp at hx
       rw[<-hw8,<-hgb];clear hw8 hgb f0 f1 f2;go_wp2_with(fail);go_meet;exact HZ.out
      | false=>
       have HZ:Hid (KI wr wb Q SC W_ i (.slice none 0 0) (.int .i64 (i:Int)) w5):=by
        have h:=Ey.out;rw[if_neg (by decide)]at h
        exact Lh ⟨rfl,none,0,[],rfl,h.1,⟨.inl rfl,.inl rfl⟩,by rw[h.2];exact TG.out.2.1.below H5.out,TG.out.2.2.1.trans (H5.out.mono TG.out.2.2.1.size)⟩
       go_wp2_with(fail);go_meet;exact HZ.out
   case rest=>
   obtain⟨rfl,oa,oc,olds,rfl,hold,hWo,hrw,ZL⟩:=hcut;have HC:Hid (nY Q SC W_ olds/\Ci wc oa olds/\Bw wr wc/\wr.heap.size<=wb):=Lh ⟨hold,hWo,ZL,TG.out.2.2.2⟩;have TK:Hid (bZ wc wb SE):=by
    rw[YF.out.1];exact Lh hrw
   obtain⟨no,hno⟩:=Nm (olds.length);have SF:Hid (no=olds.length):=Lh hno;rw[<-hno];clear hold hWo hrw ZL hno HB3;have Wm:Hid (M5 wB (.slice na nn nc) nl wc/\fe wc wB.heap.size ov ol/\∀y∈ol,dO wc y):=Lh ⟨HR.out.1.below HC.out.2.2.1,HR.out.2.1.far HC.out.2.2.1,λy hy=>(HR.out.2.2 y hy).below HC.out.2.2.1⟩;clear TG EH;obtain⟨bec_,hbe⟩:=Nm (SE:bg);rw[<-hbe]at YF TK;obtain⟨bk,bl,bh⟩:=SE;have iJ:Hid (bec_=⟨bk,bl,bh⟩):=Lh hbe;have VN:Hid (∀w',bZ w' wb bec_->D3 w' wb bk bl bh):=by rw[hbe];exact Lh (λw' h=>h.d3)
   obtain⟨gn,hgn⟩:=Nm (gy Q bec_ m);have WP:Hid (∀w',Calls prog 71 #[.agg #[.int .i64 kind,.int .i64 size,.int .i64 slide,.int .i64 late,.int .i64 agg,.int .i64 kq],.agg #[Sv bk,.int .i64 bl,.int .i64 bh],.int .i64 m] w' (bE w' (.bool gn))):=by
    have h:=λw'=>V7.out w' bec_ YF.out.2.1;rw[<-hgn,hbe]at h;exact Lh h
   have oU:=Lh hgn;clear hgn hbe;obtain⟨d0,d1,d2,d3,d4,d5⟩:=SV.out wc (HB0.out.1.below Wm.out.1.2.2);obtain⟨e0,e1⟩:=(HB0.out.2.1.below Wm.out.1.2.2).d2;obtain⟨f0,f1,f2⟩:=VN.out wc TK.out
   cases gn with
   | true=>
    go_wp2_with(fail);refine(WP.out wc).mono ?_;rintro e w7 ⟨rfl,hB⟩;have HZ:Hid (KJ wB Q m v_ ws c0 ps (.slice na nn nc) ov (.bool tk) (.int .i64 ((i:Int)+1)) w7):=by
     refine Lh ⟨i+1,by rw[<-HN.out.1];exact HX.out.2.2,by go_num,nl,ol,tk,rfl,by have:=HO.out.1;omega,?_,⟨HO.out.2.2.1.1,HO.out.2.2.1.2.1,by have:=HO.out.2.2.1.2.2;omega⟩,HO.out.2.2.2.1,HO.out.2.2.2.2.1,Wm.out.1.below hB,Wm.out.2.1.far hB,λy hy=>(Wm.out.2.2 y hy).below hB⟩
     rw[l5 HO.out.2.1 HX.out.2.1,kW,<-Tz.out,<-YF.out.1,<-oU.out,if_pos rfl,if_pos rfl]
    have SX:=Lh HX.out.2.2;clear hB d0 d1 d2 d3 d4 d5 e0 e1 f0 f1 f2;dsimp only;go_wp2_with(fail);go_roundw
    case rel=>exact HZ.out
    case measure=>have:=SX.out;simp[intOf];omega
   | false=>
    go_wp2_with(fail);refine(WP.out wc).mono ?_;rintro e w7 ⟨rfl,hB⟩;have H7:Hid (M5 wB (.slice na nn nc) nl w7/\(fe w7 wB.heap.size ov ol/\∀y∈ol,dO w7 y)/\bZ w7 wb bec_/\dF w7 oa olds/\wb<w7.heap.size):=Lh ⟨Wm.out.1.below hB,⟨Wm.out.2.1.far hB,λy hy=>(Wm.out.2.2 y hy).below hB⟩,TK.out.below hB,(HC.out.2.1.below hB).1,(TK.out.below hB).lt⟩;have ak:=Lh (HC.out.2.1.below hB);clear hB d0 d1 d2 d3 d4 d5 e0 e1 f0 f1 f2 Wm TK HR;dsimp only;obtain⟨G,hG⟩:=Nm (dY Q bec_ (dX Q SC W_) (dP,0));have TA:=Lh (PW (by rw[<-Tz.out]at HO;exact HO.out.2.1) HX.out.2.1 (by rw[<-YF.out.1];exact oU.out.symm) YF.out.1 hG)
    have Iu:=Lh hG;clear hG;obtain⟨f0,f1,f2⟩:=VN.out w7 H7.out.2.2.1;go_upto_region 22 with(fail);refine bg4 ?_
    iterate 3 go_step
    refine dm (by rfl) 55 #[(0,.tmp 90)] rfl #[Sv bk,.int .i64 bl,.int .i64 bh,.int .i64 0,.int .i64 0,.slice none 0 0,.complex .f64 0 0,.int .i64 0] (by first | exact qL bk bl bh | (simp only[bgb,bgc,bge];exact qL bk bl bh) | kernel_rfl) ?_
    iterate 3 go_step
    obtain⟨X0,hX0⟩:=Nm (⟨⟨⟨bk,bl,bh⟩,dP,0⟩,bS,fU,rfl,rfl⟩:bn);have XC:(#[Sv bk,.int .i64 bl,.int .i64 bh,.int .i64 0,.int .i64 0,.slice none 0 0,.complex .f64 0 0,.int .i64 0]:Array Value)=X0.cells:=by rw[hX0];rfl
    rw[XC];refine bg6 rfl _ _ _ rfl w7.heap.size X0.cells rfl rfl 55 cO.cells (bg5 w7 _) fo rfl (fG _) ?_;obtain⟨w8,hw8⟩:=Nm ((w7.alloc (Obj.cells #[.string ⟨#[]⟩,.int .i64 0,.int .i64 0,.int .i64 0,.int .i64 0,.slice none 0 0,.complex .f64 0 0,.int .i64 0] 55)).setRow w7.heap.size X0.cells);obtain⟨pb,hpb⟩:=Nm (w7.heap.size);have H8:Hid (cz w8 pb X0/\bR w8 X0/\Bw w7 w8/\w7.heap.size<=pb/\X0.p=⟨bec_,dP,0⟩):=by
     obtain⟨k1,k2⟩:=fO w7 X0;rw[hw8,hpb];refine Lh ⟨k1,?_,k2,bfx _,by rw[hX0,iJ.out]⟩
     rw[hX0];exact⟨bA.nil _,gL⟩
    rw[<-hw8,<-hpb];clear hw8 hpb XC hX0 f0 f1 f2;have hnn:nn<=272:=HO.out.2.2.2.2.2.2;have Y1:Hid (SC.length=nn/\no<=300):=Lh ⟨by rw[Tz.out,bfz,HO.out.2.2.2.2.2.1],by rw[SF.out];exact HC.out.1.1⟩
    obtain⟨wq,rfl⟩:∃x,x=wr:=⟨wr,rfl⟩;go_wp2_with(fail);go_loopw[94] (RJ w7 pb Q bec_ SC olds) (λk _=>nn-(intOf k).toNat)
    case atStart=>exact⟨0,bgi _,rfl,X0,by rw[H8.out.2.2.2.2],by rw[H8.out.2.2.2.2];rfl,H8.out.1,H8.out.2.1,H8.out.2.2.1⟩
    case round=>
     obtain⟨j,hj,rfl,X',uX,ER,hXr,hXG,hXB⟩:=hrel;rw[Y1.out.1]at hj;have HG:Hid (X'.p.w=bec_/\dY Q bec_ ((SC.take j).filter λp=>decide (p.w∈olds)) (dP,0)=(X'.p.a,X'.p.r,0)/\cz wr pb X'/\bR wr X'/\Bw w7 wr/\X'.p.a.bB Q=true/\(0<=X'.p.r/\X'.p.r<=1073741824)):=by
      have h1:=yJ (q:=Q) (b:=bec_) ((SC.take j).filter λp=>decide (p.w∈olds)) (dP,0) (FZ HA.out.2.2.2.2.2.2.1) (by rw[ER])
      have h2:=Fs (q:=Q) (b:=bec_) ((SC.take j).filter λp=>decide (p.w∈olds)) (dP,0) (by simp) (λo ho=>by
       have hm:=List.mem_of_mem_take (List.mem_filter.1 ho).1;rw[Tz.out]at hm;exact(HO.out.2.2.1.2.1 o hm).1)
      rw[ER]at h1 h2;exact Lh ⟨uX,ER,hXr,hXG,hXB,h1,h2⟩
     clear uX ER hXr hXG hXB;by_cases hlt:j<nn
     ·have hj0:(0:Int)<=(j:Int)/\(j:Int)<(nn:Int):=by omega
      obtain⟨y,pa2,po2,hy,Yr,c0,c1,c2,c3,c4,c5,c6,c7⟩:=(show dI wr na nl by
       obtain⟨a',c',e,_,hat⟩:=(H7.out.1.below HG.out.2.2.2.2.1).1.form;have e1:na=a':=by injection e
       rw[e1];exact hat).get (t:=j) (by rw[<-HO.out.2.2.2.2.2.1];exact hlt)
      subst Yr;have hpy:SC[j]? =some y.p:=by rw[Tz.out,bgf,hy];rfl
      have HY:Hid (SC[j]? =some y.p/\j<nn/\y∈nl/\y.p.a.bB Q=true):=by
       refine Lh ⟨hpy,hlt,bf3 hy,?_⟩;have h:=(HO.out.2.2.2.1 y.p (List.mem_map.2 ⟨y,bf3 hy,rfl⟩)).1;unfold jY at h;simp only[bf8]at h;exact h.2.2.2
      clear hj hlt hy hpy;obtain⟨Y,hY⟩:=Nm (y:bn);rw[<-hY]at HY;obtain⟨⟨⟨xk,xl,xh⟩,⟨xn,xa,xt,xu,xv⟩,xr⟩,Su,xz,Sw,Sz⟩:=y;simp only at c0 c1 c2 c3 c4 c5 c6 c7;go_upto_region 25 with(fail);refine bg4 ?_
      iterate 9 go_step
      refine bg6 rfl _ _ _ rfl wr.heap.size (bn.mk ⟨⟨xk,xl,xh⟩,⟨xn,xa,xt,xu,xv⟩,xr⟩ Su xz Sw Sz).cells rfl rfl 55 cO.cells (bg5 wr _) fo rfl (fG _) ?_;obtain⟨wx,hwx⟩:=Nm ((wr.alloc (Obj.cells #[.string ⟨#[]⟩,.int .i64 0,.int .i64 0,.int .i64 0,.int .i64 0,.slice none 0 0,.complex .f64 0 0,.int .i64 0] 55)).setRow wr.heap.size (bn.mk ⟨⟨xk,xl,xh⟩,⟨xn,xa,xt,xu,xv⟩,xr⟩ Su xz Sw Sz).cells);obtain⟨yb,hyb⟩:=Nm (wr.heap.size);have Sn:Hid (cz wx yb Y/\bR wx Y/\cz wx pb X'/\bR wx X'/\Bw w7 wx/\pb≠yb):=by
       obtain⟨k1,k2⟩:=fO wr (bn.mk ⟨⟨xk,xl,xh⟩,⟨xn,xa,xt,xu,xv⟩,xr⟩ Su xz Sw Sz);rw[hwx,hyb,hY];have hB:=HG.out.2.2.2.2.1.trans (k2.mono HG.out.2.2.2.2.1.size);rw[hY]at HY;exact Lh ⟨k1,(H7.out.1.2.1 _ HY.out.2.2.1).below hB,HG.out.2.2.1.below k2,HG.out.2.2.2.1.below k2,hB,by have:=HG.out.2.2.1.lt;omega⟩
      rw[<-hwx,<-hyb];clear hwx hyb c0 c1 c2 c3 c4 c5 c6 c7;have YM:Hid (∀w',cz w' yb Y->D8 w' yb (bn.mk ⟨⟨xk,xl,xh⟩,⟨xn,xa,xt,xu,xv⟩,xr⟩ Su xz Sw Sz)):=by rw[hY];exact Lh (λw' h=>h.d8)
      have I7:Hid (Y=(bn.mk ⟨⟨xk,xl,xh⟩,⟨xn,xa,xt,xu,xv⟩,xr⟩ Su xz Sw Sz)):=Lh hY;obtain⟨hs,eF⟩:=Nm (decide (Y.p.w∈olds));have ZF:Hid (Calls prog 74 #[.slice oa no oc,.agg #[Sv xk,.int .i64 xl,.int .i64 xh]] wx (bE wx (.bool hs))):=by
       have h3:=tX wx oa oc olds Y.p.w (H7.out.2.2.2.1.below Sn.out.2.2.2.2.1) (by have:=HC.out.1.1;omega)
       rw[<-eF,<-SF.out]at h3;rw[hY]at h3;exact Lh h3
      have WV:=Lh (take_at HY.out.1 (λp=>decide (p.w∈olds)));have IA:=Lh eF;clear eF hY;obtain⟨f0,f1,f2,f3,f4,f5,f6,f7⟩:=YM.out wx Sn.out.1;simp only at f0 f1 f2 f3 f4 f5 f6 f7;have SX:=Lh HY.out.2.1
      cases hs with
      | false=>
       go_wp2_with(fail);refine ZF.out.mono ?_;rintro e w9 ⟨rfl,hB⟩;have HZ:Hid (RJ w7 pb Q bec_ SC olds (.int .i64 ((j:Int)+1)) w9):=by
        refine Lh ⟨j+1,by rw[Y1.out.1];exact HY.out.2.1,by go_num,X',HG.out.1,?_,Sn.out.2.2.1.below hB,Sn.out.2.2.2.1.below hB,Sn.out.2.2.2.2.1.trans (hB.mono Sn.out.2.2.2.2.1.size)⟩
        rw[WV.out.1,if_neg (by rw[<-IA.out];decide),bg2]
        exact HG.out.2.1
       clear hB f0 f1 f2 f3 f4 f5 f6 f7;dsimp only;go_wp2_with(fail);go_roundw
       case rel=>exact HZ.out
       case measure=>have:=SX.out;simp[intOf];omega
      | true=>
       go_wp2_with(fail);refine ZF.out.mono ?_;rintro e w9 ⟨rfl,hB⟩;have H9:Hid (cz w9 yb Y/\bR w9 Y/\cz w9 pb X'/\bR w9 X'/\Bw w7 w9):=Lh ⟨Sn.out.1.below hB,Sn.out.2.1.below hB,Sn.out.2.2.1.below hB,Sn.out.2.2.2.1.below hB,Sn.out.2.2.2.2.1.trans (hB.mono Sn.out.2.2.2.2.1.size)⟩;clear hB f0 f1 f2 f3 f4 f5 f6 f7;dsimp only;obtain⟨mg,Xq⟩:=Nm ((dA Q X'.p.a Y.p.a).1);obtain⟨er,her⟩:=Nm ((dA Q X'.p.a Y.p.a).2);have VH:Hid (mg=(dA Q X'.p.a Y.p.a).1/\er=(dA Q X'.p.a Y.p.a).2/\(er=0∨er=20)):=Lh ⟨Xq,her,by rw[her];exact Bh HG.out.2.2.2.2.2.1 HY.out.2.2.2⟩
       have aJ:=WR.out w9 X'.p.a Y.p.a X'.tv X'.z Y.tv Y.z H9.out.2.2.2.1.1 H9.out.2.2.2.1.2 H9.out.2.1.1 H9.out.2.1.2 HG.out.2.2.2.2.2.1 HY.out.2.2.2;rw[<-Xq,<-her]at aJ;have Yc:=Lh aJ;clear Xq her aJ;obtain⟨X_,Vp⟩:=Nm (X':bn);rw[<-Vp]at HG H9 Yc VH Sn;obtain⟨⟨⟨gk,gl,gh⟩,⟨gn,ga,gt,gu,gv⟩,gr⟩,Wo,gz,Y8,Y9⟩:=X';have aT:Hid (∀w',cz w' pb X_->D8 w' pb ⟨⟨⟨gk,gl,gh⟩,⟨gn,ga,gt,gu,gv⟩,gr⟩,Wo,gz,Y8,Y9⟩):=by rw[Vp];exact Lh (λw' h=>h.d8)
       have HM:Hid (Calls prog 81 #[.agg #[.int .i64 kind,.int .i64 size,.int .i64 slide,.int .i64 late,.int .i64 agg,.int .i64 kq],.agg #[.int .i64 gn,.int .i64 ga,Wo,gz],.agg #[.int .i64 xn,.int .i64 xa,Su,xz]] w9 (qH w9 mg (decide (er=0)))):=by
        have h:=Yc.out;rw[Vp,I7.out]at h;exact Lh h
       clear Vp Yc;obtain⟨Uf,WY⟩:=Nm (decide (er=0));rw[<-WY]at HM;have Tn:=Lh WY;clear WY;obtain⟨d0,d1,d2,d3,d4,d5⟩:=SV.out w9 (HB0.out.1.below (H7.out.1.below H9.out.2.2.2.2).2.2);obtain⟨e0,e1,e2,e3,e4,e5,e6,e7⟩:=aT.out w9 H9.out.2.2.1;obtain⟨f0,f1,f2,f3,f4,f5,f6,f7⟩:=YM.out w9 H9.out.1;simp only at e0 e1 e2 e3 e4 e5 e6 e7 f0 f1 f2 f3 f4 f5 f6 f7;go_upto_region 27 with(fail);refine bg4 ?_
       iterate 15 go_step
       refine wpList_plain rfl λK' hK'=>?_;go_step;refine HM.out.mono ?_;rintro e w3 ⟨tv,z,rfl,hI,hZ,hB⟩;refine hK' _ _ ?_;have TV:Hid (cz w3 yb Y/\cz w3 pb X_/\bR w3 X_/\Bw w7 w3/\bA w3 tv mg.top/\dw z mg.u mg.v):=Lh ⟨H9.out.1.below hB,H9.out.2.2.1.below hB,H9.out.2.2.2.1.below hB,H9.out.2.2.2.2.trans (hB.mono H9.out.2.2.2.2.size),hI,hZ⟩;obtain⟨ht,hz⟩:tv.oneCell'=true/\z.oneCell'=true:=⟨hI.one,hZ.1.one⟩;clear hK' hI hZ hB d0 d1 d2 d3 d4 d5 e0 e1 e2 e3 e4 e5 e6 e7 f0 f1 f2 f3 f4 f5 f6 f7
       iterate 12 go_step
       refine bg6 rfl _ _ _ rfl w3.heap.size (bI mg.n mg.a tv z) rfl rfl 53 dE (bg5 w3 _) bV rfl (kN ht hz) ?_;obtain⟨w4,hw4⟩:=Nm ((w3.alloc (Obj.cells dE 53)).setRow w3.heap.size (bI mg.n mg.a tv z));obtain⟨ab,hab⟩:=Nm (w3.heap.size);have TL:Hid (cz w4 yb Y/\cz w4 pb X_/\bR w4 X_/\Bw w7 w4/\bA w4 tv mg.top/\dw z mg.u mg.v/\bW w4 ab mg.n mg.a tv z):=by
        obtain⟨k1,k2⟩:=lZ w3 mg.n mg.a tv z;rw[<-hw4]at k1 k2;rw[hab];obtain⟨j1,j2,j3,j4,j5,j6⟩:=TV.out;exact Lh ⟨j1.below k2,j2.below k2,j3.below k2,Tb j4 k2,j5.below k2,j6,k1⟩
       have Wh:(w3.alloc (Obj.cells #[.int .i64 0,.int .i64 0,.slice none 0 0,.complex .f64 0 0] 53)).setRow w3.heap.size (bI mg.n mg.a tv z)=w4:=hw4.symm;rw[Wh,<-hab];clear hw4 Wh hab H9 TV
       cases Uf with
       | false=>
        have he:er=20:=VH.out.2.2.resolve_left (λh=>by have:=Tn.out;rw[h]at this;simp at this)
        have HE:Hid (dC Q m v_ ws c0=⟨[],[],false,20⟩):=by
         have hg1:dY Q bec_ (((SC.take j).filter λp=>decide (p.w∈olds))++[Y.p]) (dP,0)=(dP,0,20):=by
          rw[vJ _ _ (by rw[HG.out.2.1]),HG.out.2.1]
          simp only;rw[if_neg (by rw[<-VH.out.2.1,he];decide),<-VH.out.2.1,he]
         have hg2:G.2.2=20:=by
          rw[Iu.out,<-HC.out.1.gave,WV.out.2,if_pos IA.out.symm,zW _ _ (by rw[hg1];decide),hg1]
         have h:=TA.out.1 (by rw[hg2];decide)
         rw[hg2]at h;exact Lh h
        clear he;go_upto_region 29 with(fail);obtain⟨e0,e1⟩:=(HB0.out.2.1.below (H7.out.1.below TL.out.2.2.2.1).2.2).d2;refine bg4 ?_
        iterate 3 go_step
        refine bg6 rfl _ _ _ rfl rb #[.int .i64 m,.slice sa n sc] rfl rfl 29 #[.int .i64 0,bS] (HB0.out.2.2.2.1.below (H7.out.1.below TL.out.2.2.2.1).2.2) bF rfl (cB rfl) ?_;obtain⟨wz,hwz⟩:=Nm (w4.setRow rb #[.int .i64 m,.slice sa n sc]);have HZ:Hid (bT wz rb m (.slice sa n sc)/\P (.returned (.tuple #[.agg #[.int .i64 m,.slice sa n sc],.slice none 0 0,.int .i64 20])) wz):=by
         have hg:w4.grownBy wz (some rb):=by rw[hwz];exact bC _ _ _
         have hBw:=HB0.out.2.2.2.2.2.2.2.trans (((H7.out.1.below TL.out.2.2.2.1).2.2).mono HB0.out.2.2.2.2.2.2.2.size);have TW:=hBw.trans (bG hg SA.out.2 hBw.size);exact Lh ⟨by rw[hwz];exact(HB0.out.2.2.2.1.below (H7.out.1.below TL.out.2.2.2.1).2.2).reset m _,TM.out wz ⟨[],[],false,20⟩ HE.out (by decide) TW⟩
        rw[<-hwz];clear hwz e0 e1;go_wp2_with(fail);exact bodyPost_ret (v:=.tuple #[.agg #[.int .i64 m,.slice sa n sc],.slice none 0 0,.int .i64 20]) ((bQ (p:=6) (s:=7) (u:=8) (ty:=29) rfl _ _ rb 29 #[.int .i64 m,.slice sa n sc] (0,0) _ rfl HZ.out.1 underlying29 rfl bF).trans rfl) rfl HZ.out.2
       | true=>
        have he:er=0:=by have:=Tn.out;exact bgh this.symm
        obtain⟨a0,a1,a2,a3⟩:=TL.out.2.2.2.2.2.2.d4;go_upto_region 30 with(fail);refine bg4 ?_
        iterate 6 go_step
        refine l9 rfl (.tmp 116) (.tmp 115) rfl pb X_ mg tv z ht hz rfl rfl TL.out.2.1 ?_;intro w5 eY hg5;obtain⟨X5,We⟩:=Nm (⟨⟨X_.p.w,mg,X_.p.r⟩,tv,z,ht,hz⟩:bn);rw[<-We]at eY;have Tc:Hid (cz w5 yb Y/\cz w5 pb X5/\bR w5 X5/\Bw w7 w5/\X5.p=⟨bec_,mg,X_.p.r⟩):=by
         obtain⟨j1,j2,j3,j4,j5,j6,_⟩:=TL.out;refine Lh ⟨j1.grown hg5 (by have:=Sn.out.2.2.2.2.2;simp;exact λe=>this e.symm),eY,?_,j4.trans (bG hg5 H8.out.2.2.2.1 j4.size),by rw[We,<-HG.out.1]⟩
         rw[We];exact⟨j5.grown hg5 (λ_ _ _ e hne=>j5.apart e hne j2 (by decide)),j6⟩
        have aG:Hid (dY Q bec_ ((SC.take (j+1)).filter λp=>decide (p.w∈olds)) (dP,0)=(mg,(if Y.p.w=bec_ then Y.p.r else X_.p.r),0)):=by
         rw[WV.out.1,if_pos IA.out.symm,vJ _ _ (by rw[HG.out.2.1]),HG.out.2.1]
         simp only;rw[if_pos (by rw[<-VH.out.2.1,he]),<-VH.out.1]
         exact Lh rfl
        clear We eY hg5 he a0 a1 a2 a3 TL;obtain⟨f0,f1,f2,f3,f4,f5,f6,f7⟩:=YM.out w5 Tc.out.1;simp only at f0 f1 f2 f3 f4 f5 f6 f7;have IX:=Lh (H7.out.2.2.1.below Tc.out.2.2.2.1);obtain⟨b0,b1,b2⟩:=VN.out w5 IX.out;obtain⟨Oo,eB⟩:=Nm (lq ⟨xk,xl,xh⟩ ⟨bk,bl,bh⟩);have heq:∀w',(binOp .eql 47 (.agg #[Sv xk,.int .i64 xl,.int .i64 xh]) (.agg #[Sv bk,.int .i64 bl,.int .i64 bh])).run prog w'=.ok (.bool Oo) w':=λw'=>by rw[eB];exact jo w' ⟨xk,xl,xh⟩ ⟨bk,bl,bh⟩
        have hgd:∀w' op o1 o2,(eqGuard op 47 o1 o2 (.agg #[Sv xk,.int .i64 xl,.int .i64 xh]) (.agg #[Sv bk,.int .i64 bl,.int .i64 bh])).run prog w'=.ok () w':=λw' op o1 o2=>fT w' op o1 o2 ⟨xk,xl,xh⟩ ⟨bk,bl,bh⟩;have UO:Hid (Oo=true↔Y.p.w=bec_):=by
         rw[eB,I7.out,iJ.out];exact Lh (ku _ _)
        clear eB
        cases Oo with
        | false=>
         have HZ:Hid (RJ w7 pb Q bec_ SC olds (.int .i64 ((j:Int)+1)) w5):=by
          refine Lh ⟨j+1,by rw[Y1.out.1];exact HY.out.2.1,by go_num,X5,by rw[Tc.out.2.2.2.2],?_,Tc.out.2.1,Tc.out.2.2.1,Tc.out.2.2.2.1⟩
          rw[aG.out,if_neg (λh=>by have:=UO.out.2 h;simp at this),Tc.out.2.2.2.2]
         go_wp2_with(fail);go_roundw
         case rel=>exact HZ.out
         case measure=>have:=SX.out;simp[intOf];omega
        | true=>
         go_upto_region 32 with(fail);have e7:=(Tc.out.2.1.d8).2.2.2.2.2.2.2;refine bg4 ?_
         iterate 9 go_step
         refine bU rfl _ (.tmp 123) (.tmp 122) rfl ⟨pb,7,none⟩ (.int .i64 xr) _ rfl rfl rfl rfl sizeOf3 e7 (cz.qi Tc.out.2.1 7) ?_;obtain⟨w6,SN⟩:=Nm (w5.setCell ⟨pb,7,none⟩ (.int .i64 xr));have HZ:Hid (RJ w7 pb Q bec_ SC olds (.int .i64 ((j:Int)+1)) w6):=by
          have hg:w5.grownBy w6 (some pb):=by rw[SN];exact bL _ _ _ _
          obtain⟨j1,j2,j3,j4,j5⟩:=Tc.out;refine Lh ⟨j+1,by rw[Y1.out.1];exact HY.out.2.1,by go_num,⟨⟨X5.p.w,X5.p.a,xr⟩,X5.tv,X5.z,X5.ht,X5.hz⟩,by rw[j5],?_,by rw[SN];exact j2.Kl xr,⟨j3.1.grown hg (λ_ _ _ e hne=>j3.1.apart e hne j2 (by decide)),j3.2⟩,j4.trans (bG hg H8.out.2.2.2.1 j4.size)⟩
          rw[aG.out,if_pos (UO.out.1 (by trivial)),j5,I7.out]
         rw[<-SN];clear SN e7;go_wp2_with(fail);go_roundw
         case rel=>exact HZ.out
         case measure=>have:=SX.out;simp[intOf];omega
     obtain rfl:j=nn:=by omega
     clear hlt hj;have UT:Hid (G=(X'.p.a,X'.p.r,0)):=by
      have h:=HG.out.2.1;have ht:SC.take j=SC:=by rw[<-Y1.out.1,bgs]
      rw[ht,HC.out.1.gave]at h;rw[Iu.out];exact Lh h
     have Il:=Lh (H7.out.1.below HG.out.2.2.2.2.1).2.2;obtain⟨mg,Xq⟩:=Nm ((dA Q X'.p.a Vq).1);obtain⟨er,her⟩:=Nm ((dA Q X'.p.a Vq).2);have aJ:=WR.out wr X'.p.a Vq X'.tv X'.z XU oz HG.out.2.2.2.1.1 HG.out.2.2.2.1.2 (HB0.out.2.2.2.2.2.1.below Il.out) Ez.out.1 HG.out.2.2.2.2.2.1 Ez.out.2.2;rw[<-Xq,<-her]at aJ;have Yc:=Lh aJ;have hadd:jV Q X'.p.a v_=(mg,er):=by
      rw[ND HA.out.2.2.2.2.2.2.2,<-Ez.out.2.1,Xq,her]
     have VH:Hid ((er=0∨er=20)/\(er=0->mg.bB Q=true)):=by
      refine Lh ⟨by rw[her];exact Bh HG.out.2.2.2.2.2.1 Ez.out.2.2,λh=>?_⟩
      rw[Xq];exact xS (by rw[<-her];exact h)
     have HS2:Hid ((er≠0->dC Q m v_ ws c0=⟨[],[],false,er⟩)/\(er=0->1073741824<(fC ⟨bec_,mg,X'.p.r⟩ m).r->dC Q m v_ ws c0=⟨[],[],false,20⟩)/\
       (er=0->¬1073741824<(fC ⟨bec_,mg,X'.p.r⟩ m).r->dC Q m v_ ws c0=dC Q m v_ (ws.drop (i+1)) ⟨jR (gK Q SC W_) (fC ⟨bec_,mg,X'.p.r⟩ m),ol.map bM.o++(if ji bec_ m=true then [kS Q (fC ⟨bec_,mg,X'.p.r⟩ m)]else []),false,0⟩/\
        (kW Q m v_ ⟨SC,ol.map bM.o,!tk,0⟩ W_).e=0/\(kW Q m v_ ⟨SC,ol.map bM.o,!tk,0⟩ W_).panes=jR (gK Q SC W_) (fC ⟨bec_,mg,X'.p.r⟩ m))):=by
      have h:=TA.out;rw[UT.out]at h;dsimp only at h;rw[hadd]at h;dsimp only at h;exact Lh ⟨λhe=>h.2.1 rfl he,λhe hr=>h.2.2.1 rfl he hr,λhe hr=>h.2.2.2 rfl he (by first | exact hr | exact Int.not_lt.1 hr)⟩
     clear Xq her aJ hadd TA Iu UT;obtain⟨X_,Vp⟩:=Nm (X':bn);rw[<-Vp]at HG Yc HS2;obtain⟨⟨⟨gk,gl,gh⟩,⟨gn,ga,gt,gu,gv⟩,gr⟩,Wo,gz,Y8,Y9⟩:=X';have aT:Hid (∀w',cz w' pb X_->D8 w' pb ⟨⟨⟨gk,gl,gh⟩,⟨gn,ga,gt,gu,gv⟩,gr⟩,Wo,gz,Y8,Y9⟩):=by rw[Vp];exact Lh (λw' h=>h.d8)
     have aU:Hid (X_.p.r=gr/\(0<=gr/\gr<=1073741824)):=by
      have h:=HG.out.2.2.2.2.2.2;rw[Vp]at h ⊢;exact Lh ⟨rfl,h⟩
     have HM:Hid (Calls prog 81 #[.agg #[.int .i64 kind,.int .i64 size,.int .i64 slide,.int .i64 late,.int .i64 agg,.int .i64 kq],.agg #[.int .i64 gn,.int .i64 ga,Wo,gz],.agg #[.int .i64 Vq.n,.int .i64 Vq.a,XU,oz]] wr (qH wr mg (decide (er=0)))):=by
      have h:=Yc.out;rw[Vp]at h;exact Lh h
     clear Vp Yc;obtain⟨Uf,WY⟩:=Nm (decide (er=0));rw[<-WY]at HM;have Tn:=Lh WY;clear WY;have SX:=Lh HX.out.2.2;obtain⟨d0,d1,d2,d3,d4,d5⟩:=SV.out wr (HB0.out.1.below Il.out);obtain⟨e0,e1,e2,e3,e4,e5,e6,e7⟩:=aT.out wr HG.out.2.2.1;obtain⟨a0,a1,a2,a3⟩:=(HB0.out.2.2.2.2.1.below Il.out).d4;simp only at e0 e1 e2 e3 e4 e5 e6 e7;go_upto_region 34 with(fail);refine bg4 ?_
     iterate 12 go_step
     refine wpList_plain rfl λK' hK'=>?_;go_step;refine HM.out.mono ?_;rintro e w3 ⟨tv,z,rfl,hI,hZ,hB⟩;refine hK' _ _ ?_;have TV:Hid (cz w3 pb X_/\Bw w7 w3/\bA w3 tv mg.top/\dw z mg.u mg.v):=Lh ⟨HG.out.2.2.1.below hB,HG.out.2.2.2.2.1.trans (hB.mono HG.out.2.2.2.2.1.size),hI,hZ⟩;obtain⟨ht,hz⟩:tv.oneCell'=true/\z.oneCell'=true:=⟨hI.one,hZ.1.one⟩;clear hK' hI hZ hB d0 d1 d2 d3 d4 d5 e0 e1 e2 e3 e4 e5 e6 e7 a0 a1 a2 a3
     iterate 12 go_step
     refine bg6 rfl _ _ _ rfl w3.heap.size (bI mg.n mg.a tv z) rfl rfl 53 dE (bg5 w3 _) bV rfl (kN ht hz) ?_;obtain⟨w4,hw4⟩:=Nm ((w3.alloc (Obj.cells dE 53)).setRow w3.heap.size (bI mg.n mg.a tv z));obtain⟨ab,hab⟩:=Nm (w3.heap.size);have TL:Hid (cz w4 pb X_/\Bw w7 w4/\bA w4 tv mg.top/\dw z mg.u mg.v/\bW w4 ab mg.n mg.a tv z/\pb≠ab):=by
      obtain⟨k1,k2⟩:=lZ w3 mg.n mg.a tv z;rw[<-hw4]at k1 k2;rw[hab];obtain⟨j1,j2,j3,j4⟩:=TV.out;exact Lh ⟨j1.below k2,Tb j2 k2,j3.below k2,j4,k1,by have:=j1.lt;omega⟩
     have Wh:(w3.alloc (Obj.cells #[.int .i64 0,.int .i64 0,.slice none 0 0,.complex .f64 0 0] 53)).setRow w3.heap.size (bI mg.n mg.a tv z)=w4:=hw4.symm;rw[Wh,<-hab];clear hw4 Wh hab TV
     cases Uf with
     | false=>
      have he:er=20:=VH.out.1.resolve_left (λh=>by have:=Tn.out;rw[h]at this;simp at this)
      have HE:Hid (dC Q m v_ ws c0=⟨[],[],false,20⟩):=by
       have h:=HS2.out.1 (by rw[he];decide)
       rw[he]at h;exact Lh h
      clear he;go_upto_region 36 with(fail);obtain⟨e0,e1⟩:=(HB0.out.2.1.below (H7.out.1.below TL.out.2.1).2.2).d2;refine bg4 ?_
      iterate 3 go_step
      refine bg6 rfl _ _ _ rfl rb #[.int .i64 m,.slice sa n sc] rfl rfl 29 #[.int .i64 0,bS] (HB0.out.2.2.2.1.below (H7.out.1.below TL.out.2.1).2.2) bF rfl (cB rfl) ?_;obtain⟨wz,hwz⟩:=Nm (w4.setRow rb #[.int .i64 m,.slice sa n sc]);have HZ:Hid (bT wz rb m (.slice sa n sc)/\P (.returned (.tuple #[.agg #[.int .i64 m,.slice sa n sc],.slice none 0 0,.int .i64 20])) wz):=by
       have hg:w4.grownBy wz (some rb):=by rw[hwz];exact bC _ _ _
       have hBw:=HB0.out.2.2.2.2.2.2.2.trans (((H7.out.1.below TL.out.2.1).2.2).mono HB0.out.2.2.2.2.2.2.2.size);have TW:=hBw.trans (bG hg SA.out.2 hBw.size);exact Lh ⟨by rw[hwz];exact(HB0.out.2.2.2.1.below (H7.out.1.below TL.out.2.1).2.2).reset m _,TM.out wz ⟨[],[],false,20⟩ HE.out (by decide) TW⟩
      rw[<-hwz];clear hwz e0 e1;go_wp2_with(fail);exact bodyPost_ret (v:=.tuple #[.agg #[.int .i64 m,.slice sa n sc],.slice none 0 0,.int .i64 20]) ((bQ (p:=6) (s:=7) (u:=8) (ty:=29) rfl _ _ rb 29 #[.int .i64 m,.slice sa n sc] (0,0) _ rfl HZ.out.1 underlying29 rfl bF).trans rfl) rfl HZ.out.2
     | true=>
      have he:er=0:=by have:=Tn.out;exact bgh this.symm
      have Es:=Lh he;obtain⟨a0,a1,a2,a3⟩:=TL.out.2.2.2.2.1.d4;go_upto_region 37 with(fail);refine bg4 ?_
      iterate 6 go_step
      refine l9 rfl (.tmp 137) (.tmp 136) rfl pb X_ mg tv z ht hz rfl rfl TL.out.1 ?_;intro w5 eY hg5;obtain⟨X5,We⟩:=Nm (⟨⟨X_.p.w,mg,X_.p.r⟩,tv,z,ht,hz⟩:bn);rw[<-We]at eY;have Tc:Hid (EvA wB (.slice na j nc) nl wb bec_ pb X5 ab oa olds w5/\(fe w5 wB.heap.size ov ol/\∀y∈ol,dO w5 y)/\X5.p=⟨bec_,mg,gr⟩/\Bw w7 w5):=by
       obtain⟨j1,j2,j3,j4,j5,j6⟩:=TL.out;have hB:=j2.trans (bG hg5 H8.out.2.2.2.1 j2.size);have OI:X5.p=⟨bec_,mg,gr⟩:=by rw[We,<-HG.out.1,<-aU.out.1]
       have hra:bW w5 ab X5.p.a.n X5.p.a.a X5.tv X5.z:=by rw[We];exact dz hg5 j5 (by simp;exact λe=>j6 e.symm)
       refine Lh ⟨⟨H7.out.1.below hB,H7.out.2.2.1.below hB,eY,?_,hra,ak.out.below hB⟩,⟨H7.out.2.1.1.far hB,λy hy=>(H7.out.2.1.2 y hy).below hB⟩,OI,hB⟩;rw[We];exact⟨j3.grown hg5 (λ_ _ _ e hne=>j3.apart e hne j1 (by decide)),j4⟩
      clear We eY hg5 he a0 a1 a2 a3 TL;obtain⟨b0,b1,b2⟩:=VN.out w5 Tc.out.1.2.1;obtain⟨s0,s1⟩:=(HB0.out.2.1.below Tc.out.1.1.2.2).d2;have Xr:ji bec_ m=decide (bh<=m):=by
       unfold ji;rw[YF.out.2.1,iJ.out,bgw]
      by_cases TY:bh<=m
      ·have Wn:Hid (ji bec_ m=true/\fC ⟨bec_,mg,X_.p.r⟩ m=⟨bec_,mg,gr+1⟩):=by
        have h:ji bec_ m=true:=by rw[Xr];exact bfr TY
        refine Lh ⟨h,?_⟩;unfold fC;rw[if_pos h,aU.out.1]
       have hrd:decide (bh<=m)=true:=bfr TY;clear Xr TY;have e7:=Tc.out.1.2.2.1.d8.2.2.2.2.2.2.2;rw[Tc.out.2.2.1]at e7;simp only at e7;by_cases EM:gr=1073741824
       ·have uL:(gr==1073741824)=true:=by simpa using EM
        have HE:Hid (dC Q m v_ ws c0=⟨[],[],false,20⟩):=Lh (HS2.out.2.1 Es.out (by rw[Wn.out.2];show 1073741824<gr+1;omega))
        clear EM;go_upto_region 40 with(fail);obtain⟨e0,e1⟩:=(HB0.out.2.1.below Tc.out.1.1.2.2).d2;refine bg4 ?_
        iterate 3 go_step
        refine bg6 rfl _ _ _ rfl rb #[.int .i64 m,.slice sa n sc] rfl rfl 29 #[.int .i64 0,bS] (HB0.out.2.2.2.1.below Tc.out.1.1.2.2) bF rfl (cB rfl) ?_;obtain⟨wz,hwz⟩:=Nm (w5.setRow rb #[.int .i64 m,.slice sa n sc]);have HZ:Hid (bT wz rb m (.slice sa n sc)/\P (.returned (.tuple #[.agg #[.int .i64 m,.slice sa n sc],.slice none 0 0,.int .i64 20])) wz):=by
         have hg:w5.grownBy wz (some rb):=by rw[hwz];exact bC _ _ _
         have hBw:=HB0.out.2.2.2.2.2.2.2.trans ((Tc.out.1.1.2.2).mono HB0.out.2.2.2.2.2.2.2.size);have TW:=hBw.trans (bG hg SA.out.2 hBw.size);exact Lh ⟨by rw[hwz];exact(HB0.out.2.2.2.1.below Tc.out.1.1.2.2).reset m _,TM.out wz ⟨[],[],false,20⟩ HE.out (by decide) TW⟩
        rw[<-hwz];clear hwz e0 e1;go_wp2_with(fail);exact bodyPost_ret (v:=.tuple #[.agg #[.int .i64 m,.slice sa n sc],.slice none 0 0,.int .i64 20]) ((bQ (p:=6) (s:=7) (u:=8) (ty:=29) rfl _ _ rb 29 #[.int .i64 m,.slice sa n sc] (0,0) _ rfl HZ.out.1 underlying29 rfl bF).trans rfl) rfl HZ.out.2
       have uL:(gr==1073741824)=false:=by simpa using EM
       have hgb:(0:Int)<=gr/\gr<1073741824:=by have:=aU.out.2;omega
       have Hgb:=Lh hgb;go_upto_region 41 with(fail);clear b0 b1 b2 s0 s1 hrd EM uL;refine bg4 ?_
       iterate 12 go_step
       refine bU rfl _ (.tmp 150) (.tmp 149) rfl ⟨pb,7,none⟩ (.int .i64 (gr+1)) (.int .i64 gr) rfl rfl rfl rfl sizeOf3 e7 (cz.qi Tc.out.1.2.2.1 7) ?_;obtain⟨w6,SN⟩:=Nm (w5.setCell ⟨pb,7,none⟩ (.int .i64 (gr+1)));obtain⟨X6,uW⟩:=Nm (⟨⟨X5.p.w,X5.p.a,gr+1⟩,X5.tv,X5.z,X5.ht,X5.hz⟩:bn);have Wj:Hid (EvA wB (.slice na j nc) nl wb bec_ pb X6 ab oa olds w6/\(fe w6 wB.heap.size ov ol/\∀y∈ol,dO w6 y)/\X6.p=⟨bec_,mg,gr+1⟩):=by
        have hg:w5.grownBy w6 (some pb):=by rw[SN];exact bL _ _ _ _
        obtain⟨⟨j1,j2,j3,j4,j5,j6⟩,k1,k2,k3⟩:=Tc.out;have hB:=k3.trans (bG hg H8.out.2.2.2.1 k3.size);have OI:X6.p=⟨bec_,mg,gr+1⟩:=by rw[uW,k2]
        refine Lh ⟨⟨H7.out.1.below hB,H7.out.2.2.1.below hB,by rw[uW,SN];exact j3.Kl _,?_,?_,ak.out.below hB⟩,⟨H7.out.2.1.1.far hB,λy hy=>(H7.out.2.1.2 y hy).below hB⟩,OI⟩
        ·rw[uW];exact⟨j4.1.grown hg (λ_ _ _ e hne=>j4.1.apart e hne j3 (by decide)),j4.2⟩
        rw[uW];exact dz hg j5 (λe=>by
         have e2:ab=pb:=Option.some.inj e;have h1:w5.heap[pb]? =some (.cells X5.cells 55 (0,0)):=j3;unfold bW at j5;rw[e2,h1]at j5;simp only[bf5,Obj.cells.injEq]at j5;exact absurd j5.2.1 (by decide))
       rw[<-SN];clear SN uW e7 hgb Tc;have HXa:Hid (X6.p.a.bB Q=true):=by rw[Wj.out.2.2];exact Lh (VH.out.2 Es.out)
       have uA:Hid (∀w',bR w' X6->Calls prog 82 #[.agg #[.int .i64 kind,.int .i64 size,.int .i64 slide,.int .i64 late,.int .i64 agg,.int .i64 kq],.agg #[.int .i64 X6.p.a.n,.int .i64 X6.p.a.a,X6.tv,X6.z]] w' (ni w' (dV Q X6.p.a))):=Lh (λw' h=>iT.out w' X6 h HXa.out);have WM:Hid (∀w',EvA wB (.slice na j nc) nl wb bec_ pb X6 ab oa olds w'->(D6 w' qb kind size slide late agg kq/\D3 w' wb bk bl bh/\w'.cell? ⟨pb,7,none⟩=some (.int .i64 (gr+1))/\D4 w' ab X6.p.a.n X6.p.a.a X6.tv X6.z)):=by
        refine Lh (λw' h=>⟨SV.out w' (HB0.out.1.below h.1.2.2),VN.out w' h.2.1,?_,h.2.2.2.2.1.d4⟩);have h7:=h.2.2.1.d8.2.2.2.2.2.2.2;rw[Wj.out.2.2]at h7;exact h7
       have SB:Hid (QA wB.heap.size ov ol (EvA wB (.slice na j nc) nl wb bec_ pb X6 ab oa olds) 0 w6.drew):=by
        have hB:=(Below.refl w6.heap.size w6).drew;have hE:=EvA.below Wj.out.1 hB;exact Lh ⟨hE,hE.1.2.2.size,λ_=>⟨Wj.out.2.1.1.far hB,λy hy=>(Wj.out.2.1.2 y hy).below hB⟩⟩
       go_upto_region 42 with(fail);refine dZ (λi=>([]:List Nat).contains i) (by kernel_rfl) (NoF [none,none,none,none,some 0,none]) [9] (DT (ov::([.agg #[Sv bk,.int .i64 bl,.int .i64 bh],.pointer (some ⟨pb,7,none⟩),.int .i64 (gr+1),.agg #[.int .i64 kind,.int .i64 size,.int .i64 slide,.int .i64 late,.int .i64 agg,.int .i64 kq],.agg #[.int .i64 X6.p.a.n,.int .i64 X6.p.a.a,X6.tv,X6.z],undef,undef,undef,undef,undef]:List Value)) (Q6 wB.heap.size ol (dB.mk false kz ⟨bk,bl,bh⟩ (gr+1) (dV Q X6.p.a)) 6 7 8 9 10)) (QA wB.heap.size ov ol (EvA wB (.slice na j nc) nl wb bec_ pb X6 ab oa olds)) (λw w'=>Bw w w') (lX _ _ M7) (by kernel_rfl) (by kernel_rfl) (by kernel_rfl) SB.out (λ_=>⟨rfl,rfl,rfl,rfl,rfl,rfl,rfl,rfl,rfl,rfl,rfl,trivial⟩) (λ_ h=>by simp at h) ?_ ?_
       ·refine ⟨?_,?_,?_,?_,?_,?_,?_,?_,?_,?_,?_,trivial⟩<;>(first|(intro _ k_ a w' hG Si Sj K hK;guard_hyp w':World)|intro _ a w' hG Si Sj K hK)<;>replace Si:=Lh Si<;>replace Sj:=Lh Sj
        have XV:=FoA Si 10 ov;rotate_left;have q16:=FaA Si 16 wb 0;obtain⟨⟨d0,d1,d2,d3,d4,d5⟩,⟨b0,b1,b2⟩,e7,⟨a0,a1,a2,a3⟩⟩:=WM.out w' hG.1;rotate_left;have Wi:=FaA Si 23 pb 0;rotate_left;have q153:=Pa a 153 pb 7 Sj.out.1;obtain⟨⟨d0,d1,d2,d3,d4,d5⟩,⟨b0,b1,b2⟩,e7,⟨a0,a1,a2,a3⟩⟩:=WM.out w' hG.1;rotate_left;have q3:=FaA Si 3 qb 0;obtain⟨⟨d0,d1,d2,d3,d4,d5⟩,⟨b0,b1,b2⟩,e7,⟨a0,a1,a2,a3⟩⟩:=WM.out w' hG.1;rotate_left;have XW:=FaA Si 28 ab 0;obtain⟨⟨d0,d1,d2,d3,d4,d5⟩,⟨b0,b1,b2⟩,e7,⟨a0,a1,a2,a3⟩⟩:=WM.out w' hG.1;rotate_left
        ·have q155:=Ep a 155 (.agg #[.int .i64 kind,.int .i64 size,.int .i64 slide,.int .i64 late,.int .i64 agg,.int .i64 kq]) Sj.out.1;have q156:=Ep a 156 (.agg #[.int .i64 X6.p.a.n,.int .i64 X6.p.a.a,X6.tv,X6.z]) Sj.out.2.1;have HS:=Lh (uA.out w' hG.1.2.2.2.1);go_step;refine HS.out.mono ?_;rintro e w3 ⟨tv,rfl,hI,hB⟩;exact hK _ _ hI (hG.below (λ_ _ hB_ h_=>EvA.below h_ hB_) hB) hB
        ·obtain ⟨p0,p1,p2,_⟩:=Sj.out;have Uy:=(show a.eval (.tmp 152)=.agg #[Sv bk,.int .i64 bl,.int .i64 bh]from p0);have Uz:=(show a.eval (.tmp 154)=.int .i64 (gr+1)from p1);obtain hI:=(show bA w' (a.eval (.tmp 157)) (dV Q X6.p.a)from p2);obtain⟨sa_,sc_,hv_,_⟩:=id hI;have hb:=xL bk bl bh (gr+1) sa_ (List.length ((dV Q X6.p.a))) sc_;have hpt:(#[(2,Operand.tmp 152),(3,Operand.tmp 154),(4,Operand.tmp 157)].map λ(i,x)=>(i,a.eval x)).toList=[(2,.agg #[Sv bk,.int .i64 bl,.int .i64 bh]),(3,.int .i64 (gr+1)),(4,.slice sa_ (List.length ((dV Q X6.p.a))) sc_)]:=by(simp only[bgb,bgc,bge];rw[Uy,Uz,hv_])
         refine wp_build 50 #[(2,.tmp 152),(3,.tmp 154),(4,.tmp 157)] rfl (by rw[hpt,hb];rfl) ?_
         rw[hpt,hb];exact hK _ _ ⟨bM.mk (dB.mk false kz ⟨bk,bl,bh⟩ (gr+1) (dV Q X6.p.a)) (.slice sa_ (List.length ((dV Q X6.p.a))) sc_) rfl,rfl,rfl,(show bA w' (.slice sa_ (List.length ((dV Q X6.p.a))) sc_) ((dV Q X6.p.a))from by rw[<-hv_];exact hI)⟩ hG Br
        ·obtain ⟨p0,_⟩:=Sj.out;obtain⟨y,hv,hy,hyg⟩:=(show ∃y:bM,a.eval (.tmp 158)=.agg y.cells/\y.o=(dB.mk false kz ⟨bk,bl,bh⟩ (gr+1) (dV Q X6.p.a))/\dO w' y from p0);have hBa:Bw w' (w'.alloc (.cells y.cells 50)):=(Below.refl _ w').alloc (bfx _) _;refine sJ (.tmp 158) rfl y hv ?_;exact hK _ _ (λ_=>⟨y,w'.heap.size,rfl,hy,bg5 w' _,hyg.below hBa⟩) (hG.below (λ_ _ hB_ h_=>EvA.below h_ hB_) hBa) hBa
        ·obtain ⟨p0,p1,_⟩:=Sj.out;have Ux:=(show a.eval (.tmp 151)=ov from p0);obtain hh:=(show(0=0->∃(y:bM) (g_:Nat),a.eval (.tmp 159)=.slice (some ⟨g_,0,none⟩) 1 1/\y.o=(dB.mk false kz ⟨bk,bl,bh⟩ (gr+1) (dV Q X6.p.a))/\jN w' g_ y/\dO w' y)from p1);obtain⟨y,g_,hv,hy,hrow,hyg⟩:=hh rfl;obtain⟨hr,hbs,ho_⟩:=hG;obtain⟨hO,Zf⟩:=ho_ rfl;refine rF (.tmp 151) (.tmp 159) rfl wB.heap.size ov ol [y] Ux hO (some ⟨g_,0,none⟩) 1 1 rfl hv (gH.one (λj z hz=>hrow.cell j hz)) (by have:=HO.out.1;have:=HX.out.2.2;have:=HN.out.2;simp;omega) hbs ?_
         intro v' w'' k1 k2 k3;exact hK v' w'' ⟨bfx _,y,hy,k1,λz hz=>by rcases List.mem_append.1 hz with hz | hz;exact bA.ww (Zf z hz) hO k2;rw[List.mem_singleton.1 hz];exact bA.ww hyg hO k2⟩ ⟨EvA.ww hr hO k2,bgn hbs k2.size,λe=>absurd e (by decide)⟩ (gN _ (F5 hO k2))
        ·obtain ⟨p0,_⟩:=Sj.out;obtain⟨hf0,y,hf1,hf2,hf3⟩:=(show 1<=k_/\∃y:bM,y.o=(dB.mk false kz ⟨bk,bl,bh⟩ (gr+1) (dV Q X6.p.a))/\fe w' wB.heap.size (a.eval (.tmp 160)) (ol++[y])/\∀z∈ol++[y],dO w' z from p0);obtain⟨v5,hv5⟩:∃v,a.eval (.tmp 160)=v:=⟨_,rfl⟩;rw[hv5]at hf2;have q160:=bf hv5;go_step;exact hK _ _ ⟨hf0,y,hf1,hf2,hf3⟩ hG Br
        all_goals(go_step;exact hK _ _ rfl hG Br)
       intro vs UD hG hlen hV
       match vs,hlen,hV with
       | [v0,v1,v2,v3,v4,v5,v6,v7,v8,v9,v10],_,hV=>
        obtain⟨_,y,hfo,hf1,hf3⟩:=(show 1<=1/\∃y:bM,y.o=(dB.mk false kz ⟨bk,bl,bh⟩ (gr+1) (dV Q X6.p.a))/\fe UD wB.heap.size v10 (ol++[y])/\∀z∈ol++[y],dO UD z from hV 10 10 v10 rfl rfl);have hr:=hG.1;clear hV hG;have Yh:=HS2.out.2.2 Es.out (by rw[Wn.out.2];show ¬1073741824<gr+1;have:=aU.out.2;have:=Hgb.out;omega)
        rw[Wn.out.1,Wn.out.2,if_pos rfl,<-Wj.out.2.2]at Yh;have hyo:y.o=kS Q X6.p:=by rw[hfo,Wj.out.2.2,iJ.out];rfl
        rw[<-hyo]at Yh;have HF:Hid (dC Q m v_ ws c0=dC Q m v_ (ws.drop (i+1)) ⟨jR (gK Q SC W_) X6.p,(ol++[y]).map bM.o,false,0⟩/\(kW Q m v_ ⟨SC,ol.map bM.o,!tk,0⟩ W_).e=0/\(kW Q m v_ ⟨SC,ol.map bM.o,!tk,0⟩ W_).panes=jR (gK Q SC W_) X6.p):=by
         rw[bgl,List.map_singleton];exact Lh Yh
        obtain⟨wO,O7⟩:=Nm UD;rw[<-O7]at hr hf1 hf3;obtain⟨iw,eU⟩:=Nm v10;rw[<-eU]at hf1;rw[<-eU];have IQ:Hid (∀w',Bw wO w'->fe w' wB.heap.size iw (ol++[y])/\(∀z∈ol++[y],dO w' z)/\(ol++[y]).length<=i+1):=Lh (λw' h=>⟨hf1.far h,λz hz=>(hf3 z hz).below h,by rw[bft,bg0];have:=HO.out.1;omega⟩)
        have X8:=Lh hr;clear Yh hyo hfo hr hf1 hf3 eU hlen;simp only[dG,bf7,bf1];simp only[Act.put,bfw,bfu,bfv];rw[<-O7];clear O7;go_upto_region 43 with(fail);have iU:Hid (∀w',Bw wO w'->Calls prog 84 #[.slice na j nc,.slice oa no oc] w' (kM w' (gK Q SC W_) (·∈nl))):=by
         refine Lh (λw' hB=>?_);obtain⟨a',c',e,_,hat⟩:=(X8.out.1.below hB).1.form;have e1:na=a':=by injection e
         have h:=qg w' na oa nc oc nl olds (by rw[e1];exact hat) (X8.out.2.2.2.2.2.1.below hB) (by have:=Y1.out.1;have:=HO.out.2.2.2.2.2;omega) (by have:=HC.out.1.1;omega)
         rw[<-HO.out.2.2.2.2.2.1,<-SF.out,<-Tz.out,HC.out.1.rest]at h;exact h
        have YI:Hid (∀w' a c (L:List bn),dI w' a L->L.map bn.p=gK Q SC W_->Calls prog 83 #[.slice a L.length c,.agg X6.cells] w' (kM w' (jR (L.map bn.p) X6.p) (λy=>y=X6∨y∈L))):=by
         refine Lh (λw' a c L h hm=>wX w' a c L X6 h ?_);have h1:=congrArg List.length hm;rw[bfz]at h1;have h2:(gK Q SC W_).length<=SC.length:=List.length_filter_le _ _;have:=Y1.out.1;omega
        have oP:Hid (Bw wO wO.drew):=Lh (Below.refl _ wO).drew;refine dZ (λi=>([]:List Nat).contains i) (by kernel_rfl) (NoF [none]) [] (DT ((Value.slice na j nc)::(Value.slice oa no oc)::undef::(.agg X6.cells)::([undef,undef]:List Value)) (EvW Q nl SC W_ X6)) (λ_ w'=>Bw wO w') (λw w'=>Bw w w') (lX _ _ Ng) (by kernel_rfl) (by kernel_rfl) (by kernel_rfl) oP.out (λ_=>⟨rfl,rfl,rfl,rfl,rfl,rfl,trivial⟩) (λ_ h=>by simp at h) ?_ ?_
        ·refine ⟨?_,?_,?_,?_,?_,?_,trivial⟩<;>intro _ _ a w' hG Si Sj K hK<;>replace Si:=Lh Si<;>replace Sj:=Lh Sj
         have q9:=FoA Si 9 (.slice na j nc);rotate_left;have Wx:=FoA Si 17 (.slice oa no oc);rotate_left
         ·have Uh:=Ep a 161 (.slice na j nc) Sj.out.1;have Ui:=Ep a 162 (.slice oa no oc) Sj.out.2.1;have HS:=Lh (iU.out w' hG);go_step;refine HS.out.mono ?_;rintro e w3 ⟨v,L,rfl,S9,XO,YN,hB⟩;obtain⟨a',c',hv,hc,hA⟩:=S9.form;exact hK _ _ ⟨L,a',c',hv,hA,XO,YN⟩ (Tb hG hB) hB
         have Wi:=FaA Si 23 pb 0;obtain⟨e0,e1,e2,e3,e4,e5,e6,e7⟩:=(X8.out.2.2.1.below hG).d8;rotate_left
         ·obtain ⟨p0,_,_⟩:=Sj.out;obtain⟨L,a1,c1,hv,hA1,XO,YN⟩:=(show ∃(L:List bn) (a_:Option Addr) (c_:Nat),a.eval (.tmp 163)=.slice a_ L.length c_/\dI w' a_ L/\L.map bn.p=gK Q SC W_/\∀y∈L,y∈nl from p0);have Uk:=Ep a 164 (.agg X6.cells) Sj.out.2.1;obtain⟨v2,hv2⟩:∃v,a.eval (.tmp 163)=v:=⟨_,rfl⟩;rw[hv2]at hv;have Uj:=bf (hv2.trans hv);have HS:=Lh (YI.out w' a1 c1 L hA1 XO);clear hv hv2 hA1;go_step;refine HS.out.mono ?_;rintro e w3 ⟨v,L2,rfl,S9,hL2,OA,hB⟩;exact hK _ _ ⟨L2,S9.ins,hL2.trans (by rw[XO]),λy hy=>(OA y hy).imp id (YN y)⟩ (Tb hG hB) hB
         ·obtain ⟨p0,_⟩:=Sj.out;obtain⟨L,hL1,hL2,hL3⟩:=(show ∃L:List bn,bO w' (a.eval (.tmp 165)) L/\L.map bn.p=jR (gK Q SC W_) X6.p/\∀y∈L,y=X6∨y∈nl from p0);obtain⟨v2,hv2⟩:∃v,a.eval (.tmp 165)=v:=⟨_,rfl⟩;rw[hv2]at hL1;have Ul:=bf hv2;go_step;exact hK _ _ ⟨L,hL1,hL2,hL3⟩ hG Br
         all_goals(go_step;exact hK _ _ rfl hG Br)
        intro vs w9_ hG hlen hV
        match vs,hlen,hV with
        | [v0,v1,v2,v3,v4,v5],_,hV=>
         obtain⟨L,hL1,hL2,hL3⟩:=(show ∃L:List bn,bO w9_ v5 L/\L.map bn.p=jR (gK Q SC W_) X6.p/\∀y∈L,y=X6∨y∈nl from hV 5 9 v5 rfl rfl);have HZ:Hid (KJ wB Q m v_ ws c0 ps v5 iw (.bool true) (.int .i64 ((i:Int)+1)) w9_):=by
          obtain⟨o1,o2,o3⟩:=IQ.out w9_ hG;obtain⟨f1,f2,f3⟩:=HF.out;have hE:=X8.out.1.below hG;have hok0:dL Q SC (256+i):=by rw[Tz.out];exact HO.out.2.2.1
          have aZ:mf Q m SC:=by rw[Tz.out];exact HO.out.2.2.2.1
          refine Lh ⟨i+1,by rw[<-HN.out.1];exact HX.out.2.2,by go_num,L,(ol++[y]),true,rfl,o3,by rw[f1,hL2];rfl,?_,?_,λh=>(by cases h),⟨hL1,λy hy=>?_,hE.2.2⟩,o1,o2⟩
          ·rw[hL2,<-f3];exact zy hok0 XM.out f2
          ·rw[hL2,<-f3];exact Ca (Y5.out W_ HX.out.1) aZ f2
          rcases hL3 y hy with rfl | hy
          ·exact X8.out.2.2.2.1.below hG
          exact hE.2.1 y hy
         clear hV hG hL1 hL2 hL3 hlen;simp only[dG,bf7,bf1];simp only[Act.put,bfw,bfu,bfv];go_wp2_with(fail);go_roundw
         case rel=>exact HZ.out
         case measure=>have:=SX.out;simp[intOf];omega
      ·have Wn:Hid (ji bec_ m=false/\fC ⟨bec_,mg,X_.p.r⟩ m=⟨bec_,mg,gr⟩):=by
        have h:ji bec_ m=false:=by rw[Xr];exact bfq TY
        refine Lh ⟨h,?_⟩;unfold fC;rw[if_neg (by rw[h];decide),aU.out.1]
       have hrd:decide (bh<=m)=false:=bfq TY;have Yh:=HS2.out.2.2 Es.out (by rw[Wn.out.2];have:=aU.out.2;show ¬1073741824<gr;omega)
       rw[Wn.out.1,Wn.out.2,if_neg (by decide),bg2,<-Tc.out.2.2.1]at Yh
       have HF:=Lh Yh;have IQ:Hid (∀w',Bw w5 w'->fe w' wB.heap.size ov ol/\(∀y∈ol,dO w' y)/\ol.length<=i+1):=Lh (λw' h=>⟨Tc.out.2.1.1.far h,λy hy=>(Tc.out.2.1.2 y hy).below h,by have:=HO.out.1;omega⟩)
       have X8:=Lh Tc.out.1;clear Xr TY Yh;go_upto_region 43 with(fail);clear b0 b1 b2 s0 s1 hrd;have iU:Hid (∀w',Bw w5 w'->Calls prog 84 #[.slice na j nc,.slice oa no oc] w' (kM w' (gK Q SC W_) (·∈nl))):=by
        refine Lh (λw' hB=>?_);obtain⟨a',c',e,_,hat⟩:=(X8.out.1.below hB).1.form;have e1:na=a':=by injection e
        have h:=qg w' na oa nc oc nl olds (by rw[e1];exact hat) (X8.out.2.2.2.2.2.1.below hB) (by have:=Y1.out.1;have:=HO.out.2.2.2.2.2;omega) (by have:=HC.out.1.1;omega)
        rw[<-HO.out.2.2.2.2.2.1,<-SF.out,<-Tz.out,HC.out.1.rest]at h;exact h
       have YI:Hid (∀w' a c (L:List bn),dI w' a L->L.map bn.p=gK Q SC W_->Calls prog 83 #[.slice a L.length c,.agg X5.cells] w' (kM w' (jR (L.map bn.p) X5.p) (λy=>y=X5∨y∈L))):=by
        refine Lh (λw' a c L h hm=>wX w' a c L X5 h ?_);have h1:=congrArg List.length hm;rw[bfz]at h1;have h2:(gK Q SC W_).length<=SC.length:=List.length_filter_le _ _;have:=Y1.out.1;omega
       have oP:Hid (Bw w5 w5.drew):=Lh (Below.refl _ w5).drew;refine dZ (λi=>([]:List Nat).contains i) (by kernel_rfl) (NoF [none]) [] (DT ((Value.slice na j nc)::(Value.slice oa no oc)::undef::(.agg X5.cells)::([undef,undef]:List Value)) (EvW Q nl SC W_ X5)) (λ_ w'=>Bw w5 w') (λw w'=>Bw w w') (lX _ _ Ng) (by kernel_rfl) (by kernel_rfl) (by kernel_rfl) oP.out (λ_=>⟨rfl,rfl,rfl,rfl,rfl,rfl,trivial⟩) (λ_ h=>by simp at h) ?_ ?_
       ·refine ⟨?_,?_,?_,?_,?_,?_,trivial⟩<;>intro _ _ a w' hG Si Sj K hK<;>replace Si:=Lh Si<;>replace Sj:=Lh Sj
        have q9:=FoA Si 9 (.slice na j nc);rotate_left;have Wx:=FoA Si 17 (.slice oa no oc);rotate_left
        ·have Uh:=Ep a 161 (.slice na j nc) Sj.out.1;have Ui:=Ep a 162 (.slice oa no oc) Sj.out.2.1;have HS:=Lh (iU.out w' hG);go_step;refine HS.out.mono ?_;rintro e w3 ⟨v,L,rfl,S9,XO,YN,hB⟩;obtain⟨a',c',hv,hc,hA⟩:=S9.form;exact hK _ _ ⟨L,a',c',hv,hA,XO,YN⟩ (Tb hG hB) hB
        have Wi:=FaA Si 23 pb 0;obtain⟨e0,e1,e2,e3,e4,e5,e6,e7⟩:=(X8.out.2.2.1.below hG).d8;rotate_left
        ·obtain ⟨p0,_,_⟩:=Sj.out;obtain⟨L,a1,c1,hv,hA1,XO,YN⟩:=(show ∃(L:List bn) (a_:Option Addr) (c_:Nat),a.eval (.tmp 163)=.slice a_ L.length c_/\dI w' a_ L/\L.map bn.p=gK Q SC W_/\∀y∈L,y∈nl from p0);have Uk:=Ep a 164 (.agg X5.cells) Sj.out.2.1;obtain⟨v2,hv2⟩:∃v,a.eval (.tmp 163)=v:=⟨_,rfl⟩;rw[hv2]at hv;have Uj:=bf (hv2.trans hv);have HS:=Lh (YI.out w' a1 c1 L hA1 XO);clear hv hv2 hA1;go_step;refine HS.out.mono ?_;rintro e w3 ⟨v,L2,rfl,S9,hL2,OA,hB⟩;exact hK _ _ ⟨L2,S9.ins,hL2.trans (by rw[XO]),λy hy=>(OA y hy).imp id (YN y)⟩ (Tb hG hB) hB
        ·obtain ⟨p0,_⟩:=Sj.out;obtain⟨L,hL1,hL2,hL3⟩:=(show ∃L:List bn,bO w' (a.eval (.tmp 165)) L/\L.map bn.p=jR (gK Q SC W_) X5.p/\∀y∈L,y=X5∨y∈nl from p0);obtain⟨v2,hv2⟩:∃v,a.eval (.tmp 165)=v:=⟨_,rfl⟩;rw[hv2]at hL1;have Ul:=bf hv2;go_step;exact hK _ _ ⟨L,hL1,hL2,hL3⟩ hG Br
        all_goals(go_step;exact hK _ _ rfl hG Br)
       intro vs w8_ hG hlen hV
       match vs,hlen,hV with
       | [v0,v1,v2,v3,v4,v5],_,hV=>
        obtain⟨L,hL1,hL2,hL3⟩:=(show ∃L:List bn,bO w8_ v5 L/\L.map bn.p=jR (gK Q SC W_) X5.p/\∀y∈L,y=X5∨y∈nl from hV 5 9 v5 rfl rfl);have HZ:Hid (KJ wB Q m v_ ws c0 ps v5 ov (.bool true) (.int .i64 ((i:Int)+1)) w8_):=by
         obtain⟨o1,o2,o3⟩:=IQ.out w8_ hG;obtain⟨f1,f2,f3⟩:=HF.out;have hE:=X8.out.1.below hG;have hok0:dL Q SC (256+i):=by rw[Tz.out];exact HO.out.2.2.1
         have aZ:mf Q m SC:=by rw[Tz.out];exact HO.out.2.2.2.1
         refine Lh ⟨i+1,by rw[<-HN.out.1];exact HX.out.2.2,by go_num,L,ol,true,rfl,o3,by rw[f1,hL2];rfl,?_,?_,λh=>(by cases h),⟨hL1,λy hy=>?_,hE.2.2⟩,o1,o2⟩
         ·rw[hL2,<-f3];exact zy hok0 XM.out f2
         ·rw[hL2,<-f3];exact Ca (Y5.out W_ HX.out.1) aZ f2
         rcases hL3 y hy with rfl | hy
         ·exact X8.out.2.2.2.1.below hG
         exact hE.2.1 y hy
        clear hV hG hL1 hL2 hL3 hlen;simp only[dG,bf7,bf1];simp only[Act.put,bfw,bfu,bfv];go_wp2_with(fail);go_roundw
        case rel=>exact HZ.out
        case measure=>have:=SX.out;simp[intOf];omega
  obtain rfl:i=N:=by omega
  clear hlt hi;have HE:=Lh (Dy HO.out.2.1 (by rw[<-HN.out.1];omega))
  have um:Hid (rb<wB.heap.size):=Lh HB0.out.2.2.2.1.lt
  cases tk with
  | false=>
   have hl0:=HO.out.2.2.2.2.1 rfl;have UX:=Lh hl0;have hnn:decide ((256:Int)<(nn:Int))=false:=bfq (by
    have h1:=HA.out.2.2.1.2.2;rw[<-hl0.1,bfz,<-HO.out.2.2.2.2.2.1]at h1;omega)
   have HNN:=Lh hnn;obtain⟨LO_,hLO⟩:=Nm (⟨sj X,bS,rfl⟩:bM);have Vg:Hid (LO_.tv=bS):=by rw[hLO];exact Lh rfl
   have aI:Hid (LO_.o=sj X/\LO_.cells=#[.bool true,.int .i64 TB,Sv ik,.int .i64 it,.int .i64 v_,.string ⟨#[]⟩,.int .i64 0,.int .i64 0,.int .i64 0,.slice none 0 0]):=by
    rw[hLO,Y7.out.1];exact Lh ⟨rfl,rfl⟩
   clear hl0 hnn hLO;obtain⟨x0,x1,x2,x3⟩:=Vu.out wr (HB0.out.2.2.1.below HR.out.1.2.2);go_upto_region 46 with(fail);refine bg4 ?_
   iterate 6 go_step
   refine dm (by kernel_rfl) 50 _ rfl #[.bool true,.int .i64 TB,Sv ik,.int .i64 it,.int .i64 v_,.string ⟨#[]⟩,.int .i64 0,.int .i64 0,.int .i64 0,.slice none 0 0] (by simp only[bgb,bgc,bge];exact Gj TB it v_ ik) ?_
   refine mH rfl (.tmp 171) rfl LO_ (aI.out.2 ▸ rfl) ?_;obtain⟨w8,hw8⟩:=Nm (wr.alloc (.cells LO_.cells 50));obtain⟨gb,hgb⟩:=Nm (wr.heap.size);have H8:Hid (jN w8 gb LO_/\Bw wr w8):=by
    rw[hw8,hgb];exact Lh ⟨bg5 wr _,(Below.refl _ wr).alloc (bfx _) _⟩
   rw[<-hw8,<-hgb];clear hw8 hgb x0 x1 x2 x3;refine rE rfl (.tmp 169) (.tmp 172) rfl wB.heap.size ov ol rfl (HR.out.2.1.far H8.out.2) LO_ gb rfl (λj z hz=>H8.out.1.cell j hz) (by have:=HO.out.1;have:=HN.out.2;omega) (by have:=(HR.out.1.2.2.trans (H8.out.2.mono HR.out.1.2.2.size)).size;omega) ?_
   intro v9 w9 g1 g2 g3;have H9:Hid (M5 wB (.slice na nn nc) nl w9/\fe w9 wB.heap.size v9 (ol++[LO_])/\∀y∈ol++[LO_],dO w9 y):=by
    have hO8:=HR.out.2.1.far H8.out.2;have hE8:=HR.out.1.below H8.out.2;refine Lh ⟨hE8.ww hO8 g2,g1,λy hy=>?_⟩;rcases List.mem_append.1 hy with hy | hy
    ·exact bA.ww ((HR.out.2.2 y hy).below H8.out.2) hO8 g2
    rw[List.mem_singleton.1 hy];unfold dO;rw[aI.out.1,Vg.out];exact bA.nil _
   have hnn:decide ((256:Int)<(nn:Int))=false:=HNN.out;clear g1 g2 g3 H8;obtain⟨e0,e1⟩:=(HB0.out.2.1.below H9.out.1.2.2).d2;go_upto_region 49 with(fail);refine bg4 ?_
   iterate 9 go_step
   refine dm (by kernel_rfl) 29 _ rfl #[.int .i64 m,.slice na nn nc] (by simp only[bgb,bgc,bge];exact qM m na nn nc) ?_
   iterate 3 go_step
   refine bg6 rfl _ _ _ rfl rb #[.int .i64 m,.slice na nn nc] rfl rfl 29 #[.int .i64 0,bS] (HB0.out.2.2.2.1.below H9.out.1.2.2) bF rfl (cB rfl) ?_;obtain⟨wz,hwz⟩:=Nm (w9.setRow rb #[.int .i64 m,.slice na nn nc]);have HZ:Hid (bT wz rb m (.slice na nn nc)/\P (.returned (.tuple #[.agg #[.int .i64 m,.slice na nn nc],v9,.int .i64 0])) wz):=by
    have hg:w9.grownBy wz (some rb):=by rw[hwz];exact bC _ _ _
    have hrow:=HB0.out.2.2.2.1.below H9.out.1.2.2;have hBw:=HB0.out.2.2.2.2.2.2.2.trans ((H9.out.1.2.2).mono HB0.out.2.2.2.2.2.2.2.size);have TW:=hBw.trans (bG hg SA.out.2 hBw.size);have hP:=H9.out.1.1.store hrow hg;have hG:∀y∈nl,bR wz y:=λy hy=>(H9.out.1.2.1 y hy).kJ hrow hg;have S9:=lg (B:=wB.heap.size) um.out hrow hg H9.out.2;obtain⟨Vx,Vy,hv',hc',Ta⟩:=S9.1.form;have hH:fw wz v9 ((ol++[LO_]).map bM.o):=⟨Vx,Vy,ol++[LO_],hv',hc',Ta,S9.2,rfl⟩;exact Lh ⟨by rw[hwz];exact hrow.reset m _,Vf.out wz _ v9 _ nl HE.out rfl rfl (by rw[UX.out.2,List.nil_append,List.map_singleton,aI.out.1]at hH;exact hH) hP hG UX.out.1 TW⟩
   rw[<-hwz];clear hwz e0 e1;go_wp2_with(fail);exact bodyPost_ret (v:=.tuple #[.agg #[.int .i64 m,.slice na nn nc],v9,.int .i64 0]) ((bQ (p:=6) (s:=7) (u:=8) (ty:=29) rfl _ _ rb 29 #[.int .i64 m,.slice na nn nc] (0,0) _ rfl HZ.out.1 underlying29 rfl bF).trans rfl) rfl HZ.out.2
  | true=>
   by_cases hbig:256<nn
   ·have hnn:decide ((256:Int)<(nn:Int))=true:=bfr (by omega)
    have ai:Hid (256<(nl.map bn.p).length):=Lh (by rw[bfz,<-HO.out.2.2.2.2.2.1];exact hbig)
    clear hbig;go_upto_region 48 with(fail);obtain⟨e0,e1⟩:=(HB0.out.2.1.below HR.out.1.2.2).d2;refine bg4 ?_
    iterate 3 go_step
    refine bg6 rfl _ _ _ rfl rb #[.int .i64 m,.slice sa n sc] rfl rfl 29 #[.int .i64 0,bS] (HB0.out.2.2.2.1.below HR.out.1.2.2) bF rfl (cB rfl) ?_;obtain⟨wz,hwz⟩:=Nm (wr.setRow rb #[.int .i64 m,.slice sa n sc]);have HZ:Hid (bT wz rb m (.slice sa n sc)/\P (.returned (.tuple #[.agg #[.int .i64 m,.slice sa n sc],.slice none 0 0,.int .i64 30])) wz):=by
     have hg:wr.grownBy wz (some rb):=by rw[hwz];exact bC _ _ _
     have hBw:=HB0.out.2.2.2.2.2.2.2.trans ((HR.out.1.2.2).mono HB0.out.2.2.2.2.2.2.2.size);have TW:=hBw.trans (bG hg SA.out.2 hBw.size);exact Lh ⟨by rw[hwz];exact(HB0.out.2.2.2.1.below HR.out.1.2.2).reset m _,VG.out wz _ HE.out rfl rfl ai.out TW⟩
    rw[<-hwz];clear hwz e0 e1;go_wp2_with(fail);exact bodyPost_ret (v:=.tuple #[.agg #[.int .i64 m,.slice sa n sc],.slice none 0 0,.int .i64 30]) ((bQ (p:=6) (s:=7) (u:=8) (ty:=29) rfl _ _ rb 29 #[.int .i64 m,.slice sa n sc] (0,0) _ rfl HZ.out.1 underlying29 rfl bF).trans rfl) rfl HZ.out.2
   have hnn:decide ((256:Int)<(nn:Int))=false:=bfq (by omega)
   have ai:Hid (¬256<(nl.map bn.p).length):=Lh (by rw[bfz,<-HO.out.2.2.2.2.2.1];exact hbig)
   clear hbig;obtain⟨e0,e1⟩:=(HB0.out.2.1.below HR.out.1.2.2).d2;go_upto_region 49 with(fail);refine bg4 ?_
   iterate 9 go_step
   refine dm (by kernel_rfl) 29 _ rfl #[.int .i64 m,.slice na nn nc] (by simp only[bgb,bgc,bge];exact qM m na nn nc) ?_
   iterate 3 go_step
   refine bg6 rfl _ _ _ rfl rb #[.int .i64 m,.slice na nn nc] rfl rfl 29 #[.int .i64 0,bS] (HB0.out.2.2.2.1.below HR.out.1.2.2) bF rfl (cB rfl) ?_;obtain⟨wz,hwz⟩:=Nm (wr.setRow rb #[.int .i64 m,.slice na nn nc]);have HZ:Hid (bT wz rb m (.slice na nn nc)/\P (.returned (.tuple #[.agg #[.int .i64 m,.slice na nn nc],ov,.int .i64 0])) wz):=by
    have hg:wr.grownBy wz (some rb):=by rw[hwz];exact bC _ _ _
    have hrow:=HB0.out.2.2.2.1.below HR.out.1.2.2;have hBw:=HB0.out.2.2.2.2.2.2.2.trans ((HR.out.1.2.2).mono HB0.out.2.2.2.2.2.2.2.size);have TW:=hBw.trans (bG hg SA.out.2 hBw.size);have hP:=HR.out.1.1.store hrow hg;have hG:∀y∈nl,bR wz y:=λy hy=>(HR.out.1.2.1 y hy).kJ hrow hg;have S9:=lg (B:=wB.heap.size) um.out hrow hg HR.out.2;obtain⟨Vx,Vy,hv',hc',Ta⟩:=S9.1.form;have hH:fw wz ov ((ol).map bM.o):=⟨Vx,Vy,ol,hv',hc',Ta,S9.2,rfl⟩;exact Lh ⟨by rw[hwz];exact hrow.reset m _,Sl.out wz _ _ nl ov HE.out rfl rfl ai.out hP hG rfl hH TW⟩
   rw[<-hwz];clear hwz e0 e1;go_wp2_with(fail);exact bodyPost_ret (v:=.tuple #[.agg #[.int .i64 m,.slice na nn nc],ov,.int .i64 0]) ((bQ (p:=6) (s:=7) (u:=8) (ty:=29) rfl _ _ rb 29 #[.int .i64 m,.slice na nn nc] (0,0) _ rfl HZ.out.1 underlying29 rfl bF).trans rfl) rfl HZ.out.2
end Go.Proofs.YtjeeghafachebaaGreat
