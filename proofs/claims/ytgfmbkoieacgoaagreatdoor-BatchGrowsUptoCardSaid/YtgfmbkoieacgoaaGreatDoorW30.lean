/- 30. -/
import Derived.Test.YtgfmbkoieacgoaaGreatDoorW19
import Derived.Test.YtgfmbkoieacgoaaGreatDoorW24
set_option maxRecDepth 100000
set_option maxHeartbeats 8000000
namespace Go.Proofs.YtgfmbkoieacgoaaGreatDoor
open Go Go.RowKit Go.Proofs.Tryz
def KG(w:World)(r:kK)(e:Ending)(w':World):Prop:=∃sv ov,e=.returned (.tuple #[sv,ov,.int .i64 r.n,.int .i64 r.e])/\gG w' sv r.s/\fM w' ov r.outs/\Bw w w'
theorem jI {P:Program} {e:Func} {p s u t3:Tmp} {ty:TypeId}(h:e.results=#[.cell p ty,.tmp s,.tmp u,.tmp t3])(a:Array Value)(w:World)(g:Nat)(t:TypeId)(b:Array Value)(j:Nat × Nat)(d:TypeDesc)
  (k:a.getD p undef=.pointer (some ⟨g,0,none⟩)) (l:w.heap[g]? =some (.cells b t j)) (m:P.underlying ty=some d) (n:(match d with | .struct _ | .array _ _=>true | _=>false)=true) (o:(P.info? ty).map (·.size)=some b.size):
  (results e a).run P w=.ok (.tuple #[.agg b,a.getD s undef,a.getD u undef,a.getD t3 undef]) w:=by
 have c:a[p]?.getD undef=.pointer (some ⟨g,0,none⟩):=by simpa using k
 simp[results,h,c,asAddr,run_loadVar_row w g t ty b j d l m n o]
def RS(w:World)(qb sb rb:Nat)(q:bu)(m:Int)(pv:Value)(l:List bn)(ov:Value)(ol:List bH)(wr:World):Prop:=
 dB wr qb q/\bZ wr sb m pv/\bZ wr rb 0 bM/\cZ wr pv l/\(∀y∈l,di wr y)/\fU wr (rb+1) ov ol/\(∀y∈ol,dL wr y)/\Bw w wr
theorem RS.below {w:World} {c d e:Nat} {q:bu} {m:Int} {j:Value} {l:List bn} {k:Value} {n:List bH} {wr o:World}(h:RS w c d e q m j l k n wr)(a:Bw wr o):RS w c d e q m j l k n o:=by
 obtain⟨p,r,s,u,x,z,D,E⟩:=h;exact⟨p.below a,r.below a,s.below a,u.below a,λy b=>(x y b).below a,z.far a,λy b=>(D y b).below a,Tb E a⟩
def Xe(w:World)(qb sb rb:Nat)(q:bu)(its:List ItemL)(r0:kK)(s10 Iq:Value)(wr:World):Prop:=
 ∃i:Nat,i<=its.length/\Iq=.int .i64 (i:Int)/\∃m pv l ol,r0=lJ q ⟨m,l.map bn.p⟩ (ol.map bH.o) (i:Int) (its.drop i)/\dJ q (l.map bn.p) 256/\ol.length<=256*i/\RS w qb sb rb q m pv l s10 ol wr
theorem Px {q:bu} {s:df} {o:List dE} {n:Int} {its:List ItemL} {i:Nat} {x:ItemL} {a:kK}(h:a=lJ q s o n (its.drop i))(b:its[i]? =some x):
  a=if (stepS q s x).2.2=0 then lJ q (stepS q s x).1 (o++(stepS q s x).2.1) (n+1) (its.drop (i+1))else ⟨s,o,n,(stepS q s x).2.2⟩:=by
 rw[h,List.drop_eq_getElem?_toList_append,b];rfl
theorem TT {q:bu} {s:df} {o:List dE} {n:Int} {its:List ItemL} {i:Nat} {a:kK}(h:a=lJ q s o n (its.drop i))(b:¬i<its.length):a=⟨s,o,n,0⟩:=by
 rw[h,List.drop_eq_nil_of_le (by omega)]
 rfl
def XH(w:World)(qb sb rb tb:Nat)(q:bu)(m:Int)(pv:Value)(m':Int)(pv':Value)(l':List bn)(wd:World)(k:Nat)(w':World):Prop:=
 (dB w' qb q/\bZ w' sb (if k<=1 then m else m') (if k<=1 then pv else pv')/\bZ w' rb 0 bM/\bZ w' tb m' pv'/\cZ w' pv' l'/\(∀y∈l',di w' y)/\Bw w w')/\(k=0->w'=wd)
def WQ(B:Nat)(L:List bH):List (Nat × (Nat->World->Value->Prop)):=[(3,λk w v=>1<=k/\fU w B v L/\∀y∈L,dL w y),(5,λk w v=>1<=k/\fU w B v L/\∀y∈L,dL w y)]
theorem Wi {B:Nat} {L:List bH}:∀p∈WQ B L,∀k w w' v,w'=w->p.2 k w v->p.2 k w' v:=by
 intro p a k w w' v e h;rw[e];exact h
theorem PM {B:Nat} {L:List bH} {w w':World} {l:List Oper} {a:Act}:∀p∈WQ B L,3=p.1∨∀d,dstAt l p.1=some d->p.2 0 w (a.eval (.tmp d))->p.2 1 w' (a.eval (.tmp d)):=by
 intro p b;simp only[WQ,bf2,bf9,or_false]at b;rcases b with rfl | rfl
 ·exact .inl rfl
 exact .inr λd c h=>absurd h.1 (by decide)
theorem qG {B a:Nat} {L:List bH} {w w':World} {v:Value} {m:Int} {j:Value}(l:a<B)(k:bZ w a m j)(c:w.grownBy w' (some a))(h:fU w B v L/\∀y∈L,dL w y):fU w' B v L/\∀y∈L,dL w' y:=
 ⟨h.1.kept c (.inr (λe=>by have:=h.1.lt e;omega)),λy d=>bC.grown (h.2 y d) c (λ_ _ _ e b=>bC.apart (h.2 y d) e b k (by decide))⟩
theorem Si {B b:Nat} {L:List bH} {w w':World} {l:List Oper} {a:Act} {m:Int} {n:Value}(c:b<B)(e:bZ w b m n)(j:w.grownBy w' (some b)):∀p∈WQ B L,4=p.1∨∀d,dstAt l p.1=some d->p.2 1 w (a.eval (.tmp d))->p.2 2 w' (a.eval (.tmp d)):=by
 intro p k;simp only[WQ,bf2,bf9,or_false]at k;rcases k with rfl | rfl
 ·exact .inr λd _ h=>⟨by decide,qG c e j h.2⟩
 exact .inr λd _ h=>⟨by decide,qG c e j h.2⟩
theorem xy {w:World} {B:Nat} {v:Value} {l:List bH}(h:fU w B v l) {b:Nat}(a:v.ownBlock=some b):∃j,w.heap[b]? =some (.cells j 37 (0,0)):=by
 rcases h.2 with⟨d,_⟩ | ⟨g,c,e,d,_,k,_⟩
 ·rw[d]at a;cases a
 rw[d]at a;cases a
 exact⟨e,k⟩
theorem cZ.NR {w w':World} {v u:Value} {l:List bn} {B:Nat} {m:List bH}(h:cZ w v l)(a:fU w B u m)(c:w.grownBy w' u.ownBlock):cZ w' v l:=
 h.grown c (λb d=>by obtain⟨e,j⟩:=xy a d;exact⟨e,_,_,j,by decide⟩)
theorem bC.NR {w w':World} {v u:Value} {l:List Int} {B:Nat} {m:List bH}(h:bC w v l)(d:fU w B u m)(j:w.grownBy w' u.ownBlock):bC w' v l:=
 bC.qC h j (λa n c e b k=>by obtain⟨p,o⟩:=xy d k;exact bC.apart h e b o (by decide) rfl)
theorem JO(w:World)(q:bu)(m:Int)(pv:Value)(l:List bn)(ia:Option Addr)(ic:Nat)(its:List ItemL)(hA:cZ w pv l)(hG:∀y∈l,di w y)(hF:tY l)(hI:ItemsAt w ia its)(hk:∀x∈its,x.key.length<=1000000)(hn:its.length<=3000):
  Calls prog 35 #[.agg q.cells,.agg #[.int .i64 m,pv],.slice ia its.length ic] w (KG w (jo q ⟨m,l.map bn.p⟩ its)):=by
 have mixed:prog.follows .mixedOrders=true:=by kernel_rfl
 obtain⟨ps,al⟩:=Nm (l.map bn.p);obtain⟨P,hP⟩:=Nm (KG w (jo q ⟨m,ps⟩ its));rw[<-al,<-hP];obtain⟨r,hr⟩:=Nm (fQ q ⟨m,ps⟩);obtain⟨r0,aF⟩:=Nm (lJ q ⟨m,ps⟩ [] 0 its:kK);have Yk:Hid (its≠[]->r=false->∀z sv,gG z sv ⟨m,ps⟩->Bw w z->P (.returned (.tuple #[sv,.slice none 0 0,.int .i64 0,.int .i64 2])) z):=Lh (λh1 h2 z sv hS I=>by
  rw[hr]at h2;rw[hP,jo,if_pos ⟨h1,h2⟩];exact⟨_,_,rfl,hS,fM.nil _,I⟩)
 have XY:Hid ((its=[]∨r=true)->∀z sv ov,gG z sv r0.s->fM z ov r0.outs->Bw w z->P (.returned (.tuple #[sv,ov,.int .i64 r0.n,.int .i64 r0.e])) z):=Lh (λh z sv ov hS hO I=>by
  rw[hP,jo,if_neg (by rintro⟨h1,h2⟩;rcases h with h | h;exact h1 h;rw[<-hr,h]at h2;cases h2),<-aF]
  exact⟨_,_,rfl,hS,hO,I⟩)
 have az:Hid (∀d,Bw w d->Calls prog 88 #[.agg q.cells,.agg #[.int .i64 m,pv]] d (Below0 d (.bool r))):=by
  rw[hr,al];exact Lh (λd I=>wu d q m pv l (hA.below I) (λy J=>(hG y J).below I) hF)
 have Zu:Hid (∀d m' aa l',cZ d aa l'->(∀y∈l',di d y)->tY l'->Calls prog 89 #[.agg #[.int .i64 m',aa]] d (zO d ⟨m',l'.map bn.p⟩)):=Lh (λd m' aa l' h1 h2 h3=>JI d m' aa l' h1 h2 h3);have Zh:Hid (∀d m' aa l' (x:ItemL),cZ d aa l'->(∀y∈l',di d y)->dJ q (l'.map bn.p) 256->x.key.length<=1000000->Calls prog 90 #[.agg q.cells,.agg #[.int .i64 m',aa],.agg x.cells] d (nR d (stepS q ⟨m',l'.map bn.p⟩ x).1 (stepS q ⟨m',l'.map bn.p⟩ x).2.1 (stepS q ⟨m',l'.map bn.p⟩ x).2.2)):=Lh (λd m' aa l' x h1 h2 h3 h4=>QS d q m' aa x l' h1 h2 h3 h4);have iE:Hid (r=true->dJ q (l.map bn.p) 256):=by rw[hr,al];exact Lh (λh=>DU h)
 obtain⟨sa,sc,aL,ao,ap⟩:=hA.form;clear ao ap;obtain⟨N,hN⟩:=Nm (its.length);have HA:Hid (cZ w pv l/\(∀y∈l,di w y)/\tY l/\ItemsAt w ia its/\(∀x∈its,x.key.length<=1000000)/\N=its.length/\r0=lJ q ⟨m,l.map bn.p⟩ [] 0 its/\ps=l.map bn.p):=Lh ⟨hA,hG,hF,hI,hk,hN,by rw[aF,al],al⟩
 rw[<-hN]at hn ⊢;obtain⟨w1,ae⟩:=Nm (((w.alloc (.cells q.cells 23)).alloc (.cells #[.int .i64 m,pv] 72)).alloc (.cells #[.int .i64 0,.slice none 0 0] 72));obtain⟨qb,XW⟩:=Nm (w.heap.size);obtain⟨sb,ar⟩:=Nm (w.heap.size+1);obtain⟨c,au⟩:=Nm (w.heap.size+2);have H1:Hid (dB w1 qb q/\bZ w1 sb m pv/\bZ w1 c 0 bM/\Bw w w1/\w1.heap.size=w.heap.size+3):=by rw[ae,XW,ar,au];exact Lh (Hg w q m pv)
 have am:Hid (w.heap.size<=qb/\qb<sb/\sb<c/\w1.heap.size=c+1):=Lh ⟨by omega,by omega,by omega,by have:=H1.out.2.2.2.2;omega⟩
 have ab:Hid (RS w qb sb c q m pv l bM [] w1):=by
  obtain⟨k1,L,k3,k4,_⟩:=H1.out;exact Lh ⟨k1,L,k3,hA.below k4,λy J=>(hG y J).below k4,fU.nil _ _,λy J=>by simp at J,k4⟩
 clear hP hr hA hG hF hI hk al aF H1 hN;obtain⟨Q,hQ⟩:=Nm q;rw[<-hQ]at ab HA;have Y1:Hid (∀d m' aa l' (x:ItemL),cZ d aa l'->(∀y∈l',di d y)->dJ Q (l'.map bn.p) 256->x.key.length<=1000000->Calls prog 90 #[.agg q.cells,.agg #[.int .i64 m',aa],.agg x.cells] d (nR d (stepS Q ⟨m',l'.map bn.p⟩ x).1 (stepS Q ⟨m',l'.map bn.p⟩ x).2.1 (stepS Q ⟨m',l'.map bn.p⟩ x).2.2)):=by rw[hQ];exact Zh
 rw[<-hQ]at iE;clear Zh;obtain⟨aj,size,ac,ak,agg,kq⟩:=q;have Yy:Hid (∀d,dB d qb Q->D6 d qb aj size ac ak agg kq):=by rw[hQ];exact Lh (λd h=>h.d6)
 clear hQ;obtain⟨n,aM⟩:=Nm (l.length);rw[<-aM]at aL;clear aM;subst aL;unfold bu.cells at ae az Y1 ⊢;simp only at ae az Y1 ⊢;have aN:(w.alloc (.cells #[.int .i64 aj,.int .i64 size,.int .i64 ac,.int .i64 ak,.int .i64 agg,.int .i64 kq] 23)).heap.size=w.heap.size+1:=bg w _;have aO:((w.alloc (.cells #[.int .i64 aj,.int .i64 size,.int .i64 ac,.int .i64 ak,.int .i64 agg,.int .i64 kq] 23)).alloc (.cells #[.int .i64 m,.slice sa n sc] 72)).heap.size=w.heap.size+2:=by rw[bg,bg]
 obtain⟨d0,d1,d2,d3,d4,d5⟩:=Yy.out w1 ab.out.1;obtain⟨e0,e1⟩:=ab.out.2.1.d2;have aI:Hid (∀w2,RS w qb sb c Q m (.slice sa n sc) l bM [] w2->True):=Lh (λ_ _=>trivial);clear aI;by_cases hz:N=0
 ·subst hz;have IE:Hid (its=[]):=Lh (bg3 HA.out.2.2.2.2.2.1.symm);go_enter func35,ntmps35;go_upto_region 1 with fail;rw[<-ae,<-au,<-ar,<-XW];clear ae au ar XW aN aO;go_wp2_with fail;clear e0 e1 d0 d1 d2 d3 d4 d5;go_loopw[10,29] (λaX Iq wr=>Iq=.int .i64 0/\aX=bM/\RS w qb sb c Q m (.slice sa n sc) l bM [] wr) (λ_ _ _=>0)
  case atStart=>exact⟨rfl,rfl,ab.out⟩
  case round=>
   obtain⟨rfl,rfl,hI⟩:=hrel;have ed:=Lh hI;clear hI;obtain⟨e0,e1⟩:=ed.out.2.1.d2;go_upto_region 12 with fail;have HE:Hid (r0=⟨⟨m,l.map bn.p⟩,([]:List bH).map bH.o,((0:Nat):Int),0⟩):=by
    have h:=HA.out.2.2.2.2.2.2.1;rw[IE.out]at h;exact Lh h
   have ED:=Lh (XY.out (.inl IE.out));refine bg4 ?_
   iterate 3 go_step
   refine wpList_plain rfl λK' S=>?_;go_step;refine(Zu.out wr m (.slice sa n sc) l ed.out.2.2.2.1 ed.out.2.2.2.2.1 HA.out.2.2.1).mono ?_;rintro e wk ⟨sv,rfl,⟨E,lk,rfl,O,U,R⟩,I⟩;refine S _ _ ?_;have HK:=Lh (bfy (ed.out.below I) (bfy O (bfy U R)));clear S I O U R e0 e1
   iterate 9 go_step
   refine bg6 rfl _ _ _ rfl c #[.int .i64 m,E] rfl rfl 72 #[.int .i64 0,bM] HK.out.1.2.2.1 bP rfl (dF HK.out.2.1.one) ?_;obtain⟨z,j⟩:=Nm (wk.setRow c #[.int .i64 m,E]);have HZ:Hid (bZ z c m E/\P (.returned (.tuple #[.agg #[.int .i64 m,E],bM,.int .i64 ((0:Nat):Int),.int .i64 0])) z):=by
    have Y:wk.grownBy z (some c):=by rw[j];exact bD _ _ _
    obtain⟨⟨j1,j2,M,j4,j5,j6,j7,j8⟩,k1,L,k3⟩:=HK.out;have hb:=am.out;have Y5:=qG (B:=c+1) (by omega) M Y ⟨j6,j7⟩
    obtain⟨Zy,af,ag,ah,Yr⟩:=Y5.1.form;have hS:gG z (.agg #[.int .i64 m,E]) ⟨m,(l).map bn.p⟩:=⟨E,lk,rfl,k1.store M Y,λy J=>(L y J).lT M Y,k3⟩;have hO:fM z bM ((([]:List bH)).map bH.o):=⟨Zy,af,([]:List bH),ag,ah,Yr,Y5.2,rfl⟩;have ai:=j8.trans (bQ Y (by omega) j8.size)
    exact Lh ⟨by rw[j];exact M.reset m _,by have h:=ED.out z _ bM (by rw[HE.out];exact hS) (by rw[HE.out];exact hO) ai;rw[HE.out]at h;exact h⟩
   rw[<-j];clear j;go_wp2_with fail;exact bodyPost_ret (v:=.tuple #[.agg #[.int .i64 m,E],bM,.int .i64 ((0:Nat):Int),.int .i64 0]) ((jI (p:=6) (s:=7) (u:=8) (t3:=9) (ty:=72) rfl _ _ c 72 #[.int .i64 m,E] (0,0) _ rfl HZ.out.1 underlying72 rfl bP).trans rfl) rfl HZ.out.2
 have a6:0<N:=by omega
 clear hz;go_enter func35,ntmps35;go_upto_region 1 with fail;rw[<-ae,<-au,<-ar,<-XW];clear ae au ar XW aN aO
 cases r with
 | false=>
  go_wp2_with fail;refine(az.out w1 ab.out.2.2.2.2.2.2.2).mono ?_;rintro e w2 ⟨rfl,I⟩;have an:=Lh (ab.out.below I);clear I e0 e1 d0 d1 d2 d3 d4 d5;dsimp only;obtain⟨e0,e1⟩:=an.out.2.1.d2;go_upto_region 2 with fail;have IE:Hid (its≠[]):=Lh (λe=>by have h:=HA.out.2.2.2.2.2.1;rw[e]at h;simp at h;omega)
  refine bg4 ?_
  iterate 3 go_step
  refine wpList_plain rfl λK' S=>?_;go_step;refine(Zu.out w2 m (.slice sa n sc) l an.out.2.2.2.1 an.out.2.2.2.2.1 HA.out.2.2.1).mono ?_;rintro e wk ⟨sv,rfl,⟨E,lk,rfl,O,U,R⟩,I⟩;refine S _ _ ?_;have HK:=Lh (bfy (an.out.below I) (bfy O (bfy U R)));clear S I O U R e0 e1
  iterate 0 go_step
  refine bg6 rfl _ _ _ rfl c #[.int .i64 m,E] rfl rfl 72 #[.int .i64 0,bM] HK.out.1.2.2.1 bP rfl (dF HK.out.2.1.one) ?_;obtain⟨z,j⟩:=Nm (wk.setRow c #[.int .i64 m,E]);have HZ:Hid (bZ z c m E/\P (.returned (.tuple #[.agg #[.int .i64 m,E],(.slice none 0 0),.int .i64 0,.int .i64 2])) z):=by
   have Y:wk.grownBy z (some c):=by rw[j];exact bD _ _ _
   obtain⟨⟨j1,j2,M,j4,j5,j6,j7,j8⟩,k1,L,k3⟩:=HK.out;have hb:=am.out;have Y5:=qG (B:=c+1) (by omega) M Y ⟨j6,j7⟩
   obtain⟨Zy,af,ag,ah,Yr⟩:=Y5.1.form;have hS:gG z (.agg #[.int .i64 m,E]) ⟨m,(l).map bn.p⟩:=⟨E,lk,rfl,k1.store M Y,λy J=>(L y J).lT M Y,k3⟩;have hO:fM z (.slice none 0 0) ((([]:List bH)).map bH.o):=⟨Zy,af,([]:List bH),ag,ah,Yr,Y5.2,rfl⟩;have ai:=j8.trans (bQ Y (by omega) j8.size)
   exact Lh ⟨by rw[j];exact M.reset m _,Yk.out IE.out (by trivial) z _ (by rw[HA.out.2.2.2.2.2.2.2];exact hS) ai⟩
  rw[<-j];clear j;go_wp2_with fail;exact bodyPost_ret (v:=.tuple #[.agg #[.int .i64 m,E],(.slice none 0 0),.int .i64 0,.int .i64 2]) ((jI (p:=6) (s:=7) (u:=8) (t3:=9) (ty:=72) rfl _ _ c 72 #[.int .i64 m,E] (0,0) _ rfl HZ.out.1 underlying72 rfl bP).trans rfl) rfl HZ.out.2
 | true=>
  go_wp2_with fail;refine(az.out w1 ab.out.2.2.2.2.2.2.2).mono ?_;rintro e w2 ⟨rfl,I⟩;have an:=Lh (ab.out.below I);clear I e0 e1 d0 d1 d2 d3 d4 d5 ab;dsimp only;go_wp2_with fail;go_loopw[10,29] (Xe w qb sb c Q its r0) (λ_ i _=>N-(intOf i).toNat)
  case atStart=>
   refine⟨0,bgi _,rfl,m,_,l,[],HA.out.2.2.2.2.2.2.1,iE.out (by trivial),bfx _,an.out⟩
  case round=>
   obtain⟨i,hi,rfl,D,YH,Z,F,aP,aQ,aR,hI⟩:=hrel;rw[<-HA.out.2.2.2.2.2.1]at hi;obtain⟨ad,iC,rfl,ao,ap⟩:=hI.2.2.2.1.form;obtain⟨oa,oc,rfl,aY,UN⟩:=hI.2.2.2.2.2.1.form;have HO:=Lh (bfy aP (bfy aQ (bfy aR hI)));clear ao ap aY UN aP aQ aR hI;by_cases aA:i<N
   ·have a7:(0:Int)<=(i:Int)/\(i:Int)<(N:Int):=by omega
    obtain⟨x,pa,Ym,hx,aZ,c0,c1,c2,c3⟩:=(HA.out.2.2.2.1.below HO.out.2.2.2.2.2.2.2.2.2.2).get (t:=i) (by rw[<-HA.out.2.2.2.2.2.1];exact aA)
    subst aZ;have HX:Hid (its[i]? =some x/\i<N/\x.key.length<=1000000):=Lh ⟨hx,aA,HA.out.2.2.2.2.1 x (bf3 hx)⟩;clear hx hi aA;obtain⟨x_,av⟩:=Nm (x:ItemL);rw[<-av]at HX;obtain⟨Za,xk,xt,xv⟩:=x;simp only at c0 c1 c2 c3;go_upto_region 6 with fail;refine bg4 ?_
    iterate 15 go_step
    refine bg6 rfl _ _ _ rfl wr.heap.size (ItemL.mk Za xk xt xv).cells rfl rfl 32 #[.int .i64 0,.string ⟨#[]⟩,.int .i64 0,.int .i64 0] (bg5 wr _) item_size rfl (item_one _) ?_;obtain⟨wx,aB⟩:=Nm ((wr.alloc (Obj.cells #[.int .i64 0,.string ⟨#[]⟩,.int .i64 0,.int .i64 0] 32)).setRow wr.heap.size (ItemL.mk Za xk xt xv).cells);obtain⟨xb,aG⟩:=Nm (wr.heap.size);have X3:Hid (lq wx xb x_/\RS w qb sb c Q D (.slice ad Z.length iC) Z (.slice oa F.length oc) F wx):=by
     have L:Bw wr wx:=by
      rw[aB];exact((Below.refl _ wr).alloc (bfx _) _).trans ⟨rfl,rfl,rfl,by simp[World.setRow],λk hk=>setRow_other _ _ _ _ (by omega)⟩
     refine Lh ⟨?_,HO.out.2.2.2.below L⟩;rw[aB,aG,av];exact setRow_heap _ _ _ _ _ _ (bg5 wr _)
    rw[<-aB,<-aG];clear aB aG c0 c1 c2 c3;have iI:Hid (∀d,lq d xb x_->DX d xb Za xk xt xv):=by rw[av];exact Lh (λd h=>h.dx)
    have aS:Hid (Calls prog 90 #[.agg #[.int .i64 aj,.int .i64 size,.int .i64 ac,.int .i64 ak,.int .i64 agg,.int .i64 kq],.agg #[.int .i64 D,.slice ad Z.length iC],.agg #[.int .i64 Za,Sv xk,.int .i64 xt,.int .i64 xv]] wx (nR wx (stepS Q ⟨D,Z.map bn.p⟩ x_).1 (stepS Q ⟨D,Z.map bn.p⟩ x_).2.1 (stepS Q ⟨D,Z.map bn.p⟩ x_).2.2)):=by
     have h:=Y1.out wx D _ Z x_ X3.out.2.2.2.2.1 X3.out.2.2.2.2.2.1 HO.out.2.1 HX.out.2.2;rw[av]at h ⊢;exact Lh h
    clear av;obtain⟨d0,d1,d2,d3,d4,d5⟩:=Yy.out wx X3.out.2.1;obtain⟨e0,e1⟩:=X3.out.2.2.1.d2;obtain⟨x0,x1,x2,x3⟩:=iI.out wx X3.out.1;go_upto_region 7 with fail;refine bg4 ?_
    iterate 9 go_step
    refine wpList_plain rfl λK' S=>?_;go_step;refine aS.out.mono ?_;rintro e w5 ⟨sv,a8,rfl,⟨iw,l2,rfl,O,U,R⟩,⟨ui,IY,Yo,rfl,a0,aT,aU,aC⟩,I⟩;refine S _ _ ?_;clear S d0 d1 d2 d3 d4 d5 e0 e1 x0 x1 x2 x3;obtain⟨S2,aw⟩:=Nm (stepS Q ⟨D,Z.map bn.p⟩ x_);rw[<-aw]at R aC;rw[<-aw];obtain⟨m2,aH⟩:=Nm (S2.1.mark);obtain⟨er,aJ⟩:=Nm (S2.2.2);rw[<-aH,<-aJ];have HS:Hid (er=(stepS Q ⟨D,Z.map bn.p⟩ x_).2.2/\(⟨m2,l2.map bn.p⟩:df)=(stepS Q ⟨D,Z.map bn.p⟩ x_).1/\Yo.map bH.o=(stepS Q ⟨D,Z.map bn.p⟩ x_).2.1/\Yo.length<=256):=by
     rw[<-aw];refine Lh ⟨aJ,by rw[aH,<-R],aC.symm,?_⟩
     have h:=wH (q:=Q) (s:=⟨D,Z.map bn.p⟩) (x:=x_) (n:=256) HO.out.2.1.2.2 (by decide)
     rw[<-aw,aC,bfz]at h;exact h
    obtain⟨Zc,Zd,rfl,ao,ap⟩:=O.form;have H5:Hid (RS w qb sb c Q D (.slice ad Z.length iC) Z (.slice oa F.length oc) F w5/\cZ w5 (.slice Zc l2.length Zd) l2/\(∀y∈l2,di w5 y)/\dZ w5 ui Yo/\(∀y∈Yo,dL w5 y)):=Lh ⟨X3.out.2.below I,O,U,aT,aU⟩;clear O U R a0 aT aU aC I aw aH aJ ao ap X3 aS
    iterate 15 go_step
    refine bg6 rfl _ _ _ rfl w5.heap.size #[.int .i64 m2,.slice Zc l2.length Zd] rfl rfl 72 #[.int .i64 0,bM] (bg5 w5 _) bP rfl (dF rfl) ?_;obtain⟨w6,aK⟩:=Nm ((w5.alloc (Obj.cells #[.int .i64 0,.slice none 0 0] 72)).setRow w5.heap.size #[.int .i64 m2,.slice Zc l2.length Zd]);obtain⟨tb,ax⟩:=Nm (w5.heap.size);have H6:Hid (RS w qb sb c Q D (.slice ad Z.length iC) Z (.slice oa F.length oc) F w6/\cZ w6 (.slice Zc l2.length Zd) l2/\(∀y∈l2,di w6 y)/\dZ w6 ui Yo/\(∀y∈Yo,dL w6 y)/\bZ w6 tb m2 (.slice Zc l2.length Zd)/\(c<tb/\(Value.slice oa F.length oc).ownBlock≠some tb)):=by
     obtain⟨k1,L⟩:=qO w5 m2 (.slice Zc l2.length Zd);have e:w6=(w5.alloc (Obj.cells #[.int .i64 0,bM] 72)).setRow w5.heap.size #[.int .i64 m2,.slice Zc l2.length Zd]:=aK;rw[<-e,<-ax]at k1;rw[<-e]at L;obtain⟨j1,j2,M,j4,j5⟩:=H5.out;exact Lh ⟨j1.below L,j2.below L,λy J=>(M y J).below L,j4.below L,λy J=>(j5 y J).below L,k1,by rw[ax];exact j1.2.2.1.lt,λe=>by have:=j1.2.2.2.2.2.1.lt e;omega⟩
    rw[<-aK,<-ax];clear aK ax H5;by_cases he:er=0
    ·subst he;go_upto_region 10 with fail;have Hd:Hid (RS w qb sb c Q D (.slice ad Z.length iC) Z (.slice oa F.length oc) F w6.drew/\cZ w6.drew (.slice Zc l2.length Zd) l2/\(∀y∈l2,di w6.drew y)/\dZ w6.drew ui Yo/\(∀y∈Yo,dL w6.drew y)/\bZ w6.drew tb m2 (.slice Zc l2.length Zd)/\(c<tb/\(Value.slice oa F.length oc).ownBlock≠some tb)):=by
      obtain⟨j1,j2,M,j4,j5,j6,j7⟩:=H6.out;have I:=(Below.refl w6.heap.size w6).drew;exact Lh ⟨j1.below I,j2.below I,λy J=>(M y J).below I,j4.below I,λy J=>(j5 y J).below I,j6.below I,j7⟩
     have a1:Hid (XH w qb sb c tb Q D (.slice ad Z.length iC) m2 (.slice Zc l2.length Zd) l2 w6.drew 0 w6.drew):=by
      obtain⟨⟨j1,j2,M,j4,j5,j6,j7,j8⟩,p1,p2,p3,p4,p5,p6⟩:=Hd.out;exact Lh ⟨⟨j1,j2,M,p5,p1,p2,j8⟩,λ_=>rfl⟩
     refine wp_region_skipA (λi=>([]:List Nat).contains i) (by kernel_rfl) [none,none,none,some 0,some 1,none] [3,4] (PP (([.agg #[.int .i64 m2,.slice Zc l2.length Zd],.slice oa F.length oc,.slice ui Yo.length IY,undef,undef,undef]:List Value)) (WQ (c+1) (F++Yo))) (XH w qb sb c tb Q D (.slice ad Z.length iC) m2 (.slice Zc l2.length Zd) l2 w6.drew) (λw d=>d=w) (vK _ _ Wi) (by kernel_rfl) (by kernel_rfl) (by kernel_rfl) a1.out (λ_=>⟨rfl,rfl,rfl,rfl,rfl,rfl,trivial⟩) (λ_ h=>by simp at h) ?_ ?_
     ·refine ⟨?_,?_,?_,?_,?_,?_,trivial⟩<;>(first|(intro _ k_ a d hG XR XU K hK;guard_hyp d:World)|intro _ a d hG XR XU K hK)<;>replace XR:=Lh XR<;>replace XU:=Lh XU
      ·have a9:=FaA XR 13 tb 0;obtain⟨e0,e1⟩:=hG.1.2.2.2.1.d2;go_step;exact hK _ _ rfl hG rfl
      ·have ba:=FoA XR 10 (.slice oa F.length oc);go_step;exact hK _ _ rfl hG rfl
      ·have bb:=FoA XR 14 (.slice ui Yo.length IY);go_step;exact hK _ _ rfl hG rfl
      ·obtain ⟨p0,p1,_⟩:=XU.out;have U0:=(show a.eval (.tmp 50)=.slice oa F.length oc from p0);have a2:=(show a.eval (.tmp 51)=.slice ui Yo.length IY from p1);have ew:=hG.2 rfl;subst ew;refine CB (.tmp 50) (.tmp 51) rfl (c+1) _ F Yo U0 Hd.out.1.2.2.2.2.2.1 ui IY _ rfl a2 Hd.out.2.2.2.1 (by have:=HO.out.2.2.1;have:=HX.out.2.1;have:=HS.out.2.2.2;omega) (by have:=Hd.out.1.2.2.1.lt;omega) ?_
       intro v' a3 k1 L k3;have Y5:=Hd.out.1.2.2.2.2.2.1;have aD:∀b,b<=c->some b≠(Value.slice oa F.length oc).ownBlock:=λb hb e=>by have:=Y5.lt e.symm;omega
       have hb:=am.out;obtain⟨⟨j1,j2,M,j4,j5,j6,j7,j8⟩,p1,p2,p3,p4,p5,p6,p7⟩:=Hd.out;exact hK v' a3 ⟨bfx _,k1,λy J=>by rcases List.mem_append.1 J with J | J;exact bC.NR (j7 y J) Y5 L;exact bC.NR (p4 y J) Y5 L⟩ ⟨⟨grown_row L j1 (aD qb (by omega)),by rw[if_pos (by decide),if_pos (by decide)];exact grown_row L j2 (aD sb (by omega)),grown_row L M (aD c (by omega)),grown_row L p5 (λe=>p7 e.symm),p1.NR Y5 L,λy J=>⟨bC.NR (p2 y J).1 Y5 L,(p2 y J).2⟩,j8.trans ⟨L.os,L.tape,L.output,L.size,λk hk=>L.block k (by have:=j8.size;omega) (aD k (by omega))⟩⟩,λe=>absurd e (by decide)⟩ (jq _ PM)
      ·obtain ⟨p0,_⟩:=XU.out;have r4:=((XR.out 4 rfl).trans (show _=.pointer (some ⟨sb,0,none⟩)from rfl));have a4:=(show a.eval (.tmp 49)=.agg #[.int .i64 m2,.slice Zc l2.length Zd]from p0);obtain⟨⟨j1,j2,M,j4,j5,j6,j7⟩,_⟩:=hG;rw[if_pos (by decide),if_pos (by decide)]at j2
       have hb:=am.out;have ax:=Hd.out.2.2.2.2.2.2.1;refine wp_store_row _ (.tmp 4) (.tmp 49) rfl sb #[.int .i64 m2,.slice Zc l2.length Zd] r4 a4 _ _ j2 bP rfl (dF rfl) ?_;have Y:d.grownBy (d.setRow sb #[.int .i64 m2,.slice Zc l2.length Zd]) (some sb):=bD _ _ _;exact hK _ _ rfl ⟨⟨grown_row Y j1 (by simp;omega),by rw[if_neg (by decide),if_neg (by decide)];exact j2.reset m2 _,grown_row Y M (by simp;omega),grown_row Y j4 (by simp;omega),j5.store j2 Y,λy J=>(j6 y J).lT j2 Y,j7.trans (bQ Y (by omega) j7.size)⟩,λe=>absurd e (by decide)⟩ (jq _ (Si (by omega) j2 Y))
      obtain ⟨p0,_⟩:=XU.out;obtain⟨aE,ay,a5⟩:=(show 1<=k_/\fU d (c+1) (a.eval (.tmp 52)) (F++Yo)/\∀y∈F++Yo,dL d y from p0);obtain⟨v5,aV⟩:∃v,a.eval (.tmp 52)=v:=⟨_,rfl⟩;rw[aV]at ay;have I9:=ev_of aV;go_step;exact hK _ _ ⟨aE,ay,a5⟩ hG rfl
     intro vs w8 hG aW hV
     match vs,aW,hV with
     | [v0,v1,v2,v3,v4,v5],_,hV=>
      obtain⟨_,aE,ay⟩:=(show 1<=2/\fU w8 (c+1) v5 (F++Yo)/\∀y∈F++Yo,dL w8 y from hV 5 10 v5 rfl rfl);obtain⟨⟨j1,j2,M,j4,j5,j6,j7⟩,_⟩:=hG;rw[if_neg (by decide),if_neg (by decide)]at j2
      clear hV;have HZ:Hid (RS w qb sb c Q m2 (.slice Zc l2.length Zd) l2 v5 (F++Yo) w8):=Lh ⟨j1,j2,M,j5,j6,aE,ay,j7⟩;clear aE ay j1 j2 M j4 j5 j6 j7;simp only[putsL,bf7,bf1];simp only[Act.put,bfw,bfu,bfv];go_wp2_with fail;refine⟨⟨i+1,by rw[<-HA.out.2.2.2.2.2.1];exact HX.out.2.1,rfl,m2,_,l2,F++Yo,?_,?_,by rw[bft];have:=HO.out.2.2.1;have:=HS.out.2.2.2;omega,HZ.out⟩,by rw[dO,dO];have:=HX.out.2.1;omega⟩
      ·have h:=Px HO.out.1 HX.out.1;rw[if_pos HS.out.1.symm,<-HS.out.2.1,<-HS.out.2.2.1]at h;rw[h,bgl];rfl
      have h:=xN HO.out.2.1 HX.out.2.2 HS.out.1.symm;rw[<-HS.out.2.1]at h;exact h
    have bc:(er==0)=false:=by simpa using he
    have HE:Hid (r0=⟨⟨D,Z.map bn.p⟩,F.map bH.o,(i:Int),er⟩):=by
     have h:=Px HO.out.1 HX.out.1;rw[if_neg (by rw[<-HS.out.1];exact he),<-HS.out.1]at h
     exact Lh h
    obtain⟨e0,e1⟩:=H6.out.1.2.1.d2;go_upto_region 9 with fail;have ED:=Lh (XY.out (.inr (by trivial)))
    refine bg4 ?_
    iterate 3 go_step
    refine wpList_plain rfl λK' S=>?_;go_step;refine(Zu.out w6 D (.slice ad Z.length iC) Z H6.out.1.2.2.2.1 H6.out.1.2.2.2.2.1 (HO.out.2.1.sorted (by decide)).1).mono ?_
    rintro e wk ⟨sv,rfl,⟨E,lk,rfl,O,U,R⟩,I⟩;refine S _ _ ?_;have HK:=Lh (bfy (H6.out.1.below I) (bfy O (bfy U R)));clear S I O U R e0 e1
    iterate 9 go_step
    refine bg6 rfl _ _ _ rfl c #[.int .i64 D,E] rfl rfl 72 #[.int .i64 0,bM] HK.out.1.2.2.1 bP rfl (dF HK.out.2.1.one) ?_;obtain⟨z,j⟩:=Nm (wk.setRow c #[.int .i64 D,E]);have HZ:Hid (bZ z c D E/\P (.returned (.tuple #[.agg #[.int .i64 D,E],(.slice oa F.length oc),.int .i64 (i:Int),.int .i64 er])) z):=by
     have Y:wk.grownBy z (some c):=by rw[j];exact bD _ _ _
     obtain⟨⟨j1,j2,M,j4,j5,j6,j7,j8⟩,k1,L,k3⟩:=HK.out;have hb:=am.out;have Y5:=qG (B:=c+1) (by omega) M Y ⟨j6,j7⟩
     obtain⟨Zy,af,ag,ah,Yr⟩:=Y5.1.form;have hS:gG z (.agg #[.int .i64 D,E]) ⟨D,(Z).map bn.p⟩:=⟨E,lk,rfl,k1.store M Y,λy J=>(L y J).lT M Y,k3⟩;have hO:fM z (.slice oa F.length oc) ((F).map bH.o):=⟨Zy,af,F,ag,ah,Yr,Y5.2,rfl⟩;have ai:=j8.trans (bQ Y (by omega) j8.size)
     exact Lh ⟨by rw[j];exact M.reset D _,by have h:=ED.out z _ (.slice oa F.length oc) (by rw[HE.out];exact hS) (by rw[HE.out];exact hO) ai;rw[HE.out]at h;exact h⟩
    rw[<-j];clear j;go_wp2_with fail;exact bodyPost_ret (v:=.tuple #[.agg #[.int .i64 D,E],(.slice oa F.length oc),.int .i64 (i:Int),.int .i64 er]) ((jI (p:=6) (s:=7) (u:=8) (t3:=9) (ty:=72) rfl _ _ c 72 #[.int .i64 D,E] (0,0) _ rfl HZ.out.1 underlying72 rfl bP).trans rfl) rfl HZ.out.2
   obtain rfl:i=N:=by omega
   have HE:=Lh (TT HO.out.1 (by rw[<-HA.out.2.2.2.2.2.1];omega))
   clear aA hi;obtain⟨e0,e1⟩:=HO.out.2.2.2.2.1.d2;go_upto_region 12 with fail;have ED:=Lh (XY.out (.inr (by trivial)))
   refine bg4 ?_
   iterate 3 go_step
   refine wpList_plain rfl λK' S=>?_;go_step;refine(Zu.out wr D (.slice ad Z.length iC) Z HO.out.2.2.2.2.2.2.1 HO.out.2.2.2.2.2.2.2.1 (HO.out.2.1.sorted (by decide)).1).mono ?_
   rintro e wk ⟨sv,rfl,⟨E,lk,rfl,O,U,R⟩,I⟩;refine S _ _ ?_;have HK:=Lh (bfy (HO.out.2.2.2.below I) (bfy O (bfy U R)));clear S I O U R e0 e1
   iterate 9 go_step
   refine bg6 rfl _ _ _ rfl c #[.int .i64 D,E] rfl rfl 72 #[.int .i64 0,bM] HK.out.1.2.2.1 bP rfl (dF HK.out.2.1.one) ?_;obtain⟨z,j⟩:=Nm (wk.setRow c #[.int .i64 D,E]);have HZ:Hid (bZ z c D E/\P (.returned (.tuple #[.agg #[.int .i64 D,E],(.slice oa F.length oc),.int .i64 (i:Int),.int .i64 0])) z):=by
    have Y:wk.grownBy z (some c):=by rw[j];exact bD _ _ _
    obtain⟨⟨j1,j2,M,j4,j5,j6,j7,j8⟩,k1,L,k3⟩:=HK.out;have hb:=am.out;have Y5:=qG (B:=c+1) (by omega) M Y ⟨j6,j7⟩
    obtain⟨Zy,af,ag,ah,Yr⟩:=Y5.1.form;have hS:gG z (.agg #[.int .i64 D,E]) ⟨D,(Z).map bn.p⟩:=⟨E,lk,rfl,k1.store M Y,λy J=>(L y J).lT M Y,k3⟩;have hO:fM z (.slice oa F.length oc) ((F).map bH.o):=⟨Zy,af,F,ag,ah,Yr,Y5.2,rfl⟩;have ai:=j8.trans (bQ Y (by omega) j8.size)
    exact Lh ⟨by rw[j];exact M.reset D _,by have h:=ED.out z _ (.slice oa F.length oc) (by rw[HE.out];exact hS) (by rw[HE.out];exact hO) ai;rw[HE.out]at h;exact h⟩
   rw[<-j];clear j;go_wp2_with fail;exact bodyPost_ret (v:=.tuple #[.agg #[.int .i64 D,E],(.slice oa F.length oc),.int .i64 (i:Int),.int .i64 0]) ((jI (p:=6) (s:=7) (u:=8) (t3:=9) (ty:=72) rfl _ _ c 72 #[.int .i64 D,E] (0,0) _ rfl HZ.out.1 underlying72 rfl bP).trans rfl) rfl HZ.out.2
open Go Go.RowKit Go.MapKept Go.Proofs.Tryz
theorem MH {n:Nat} {a:List Nat}(c:a.Nodup)(d:∀j∈a,j<n) {j:Nat}(e:j<n)(b:j ∉ a):a.length<n:=by
 have l:a.Perm ((List.range n).filter (λk=>decide (k∈a))):=
  (List.perm_ext_iff_of_nodup c (List.nodup_range.filter _)).2 λk=>by
   simp only[bgv,List.mem_range,bf0];exact⟨λh=>⟨d k h,h⟩,λh=>h.2⟩
 have m:((List.range n).filter (λk=>decide (k∈a))).length<(List.range n).length:=by
  rw[List.length_filter_lt_length_iff_exists];exact⟨j,List.mem_range.2 e,by simpa using b⟩
 rw[l.length_eq];simpa using m
theorem Qz {w:World} {u:Value} {l:List Int} {a:Addr} {n c r b m:Nat} {x:List Nat}(h:bC w u l)(e:u=.slice (some a) n c)(p:l≠[])(y:nS w r b m x):a.block≠r:=by
 obtain⟨k,_,z⟩:=y;obtain⟨I,J,d,_,q⟩:=h;rcases q with⟨_,q⟩ | ⟨D,o,E,j,_⟩
 ·exact absurd q p
 rcases j with j | ⟨F,j⟩
 ·exact absurd j p
 rw[e]at d;injection d with d _ _
 rw[E]at d;injection d with d
 rw[d];intro s;have s:D=r:=s;rw[s,z]at j;cases j
structure KD(w:World)(mb rb:Nat)(L:List bH)(is js:List Nat)(v:Value)(ol:List bH)(wr:World):Prop where
 nd:is.Nodup
 lt:∀j∈is,j<L.length
 map:mY wr mb L
 it:nS wr rb mb L.length is
 own:fU wr (rb+1) v ol
 good:∀x∈ol,dL wr x
 eq:ol.map bH.o=js.map (λj=>(L.getD j dD).o)
 bel:Bw w wr
 low:w.heap.size<=mb/\mb<rb/\rb<wr.heap.size
section
variable {w wr w' : World} {mb rb : Nat} {L : List bH} {is js : List Nat} {v v' : Value} {ol : List bH}
theorem KD.below(h:KD w mb rb L is js v ol wr)(a:Bw wr w'):KD w mb rb L is js v ol w':=
 ⟨h.nd,h.lt,h.map.below a,h.it.below a,h.own.far a,λx b=>bC.below (h.good x b) a,h.eq,h.bel.trans (a.mono h.bel.size),by have:=h.low;have:=a.size;omega⟩
theorem KD.next(h:KD w mb rb L js js v ol wr) {j:Nat}(q:j ∉ js)(r:j<L.length)(s:mY w' mb L)(u:nS w' rb mb L.length (js++[j]))(d:wr.grownBy w' (some rb)):KD w mb rb L (js++[j]) js v ol w':=by
 have y:=h.low;refine⟨?_,λk l=>?_,s,u,h.own.kept d ?_,λx o=>?_,h.eq,h.bel.trans ⟨d.os,d.tape,d.output,d.size,λk l=>d.block k (Nat.lt_of_lt_of_le l h.bel.size) (by simp;omega)⟩,by have:=d.size;omega⟩
 ·rw[List.nodup_append];refine⟨h.nd,by simp,λa p b z e=>?_⟩
  rw[List.mem_singleton.1 z]at e;rw[e]at p;exact q p
 ·rcases List.mem_append.1 l with l | l
  ·exact h.lt k l
  rw[List.mem_singleton.1 l];exact r
 ·right
  intro e;have:=(h.own.lt e).1;omega
 exact bC.grown (h.good x o) d (λa n c e m=>Qz (h.good x o) e m h.it)
theorem KD.put(h:KD w mb rb L is js v ol wr) {d:Nat} {x:bH}(m:fH wr d x)(o:rb<d)(j:v.ownBlock≠some d)(b:wr.grownBy w' (some d)):KD w mb rb L is js v ol w':=by
 have p:=h.low;exact⟨h.nd,h.lt,h.map.grown b (by simp;omega),h.it.grown b (by simp;omega),h.own.kept b (.inr j),λy l=>bC.grown (h.good y l) b (λa n c e q=>bC.apart (h.good y l) e q m (by decide)),h.eq,
  h.bel.trans ⟨b.os,b.tape,b.output,b.size,λk r=>b.block k (Nat.lt_of_lt_of_le r h.bel.size) (by simp;omega)⟩,by have:=b.size;omega⟩
theorem KD.app {j:Nat}(h:KD w mb rb L (js++[j]) js v ol wr) {y:bH}(l:dL wr y)(m:y.o=(L.getD j dD).o)(a:wr.grownBy w' v.ownBlock)(n:fU w' (rb+1) v' (ol++[y])):KD w mb rb L (js++[j]) (js++[j]) v' (ol++[y]) w':=by
 have p:=h.low;have c:∀k,k<=rb->some k≠v.ownBlock:=λk d e=>by have:=(h.own.lt e.symm).1;omega
 refine⟨h.nd,h.lt,h.map.grown a (c mb (by omega)),h.it.grown a (c rb (bfx _)),n,λx b=>?_,by simp[h.eq,m],h.bel.trans ⟨a.os,a.tape,a.output,a.size,λk d=>a.block k (Nat.lt_of_lt_of_le d h.bel.size) (c k (by omega))⟩,by have:=a.size;omega⟩
 rcases List.mem_append.1 b with b | b
 ·exact bC.NR (h.good x b) h.own a
 rw[List.mem_singleton.1 b];exact bC.NR l h.own a
end
def lW(l:List bH):List bH:=(l.filter (λx=> !x.o.late)).foldl qK []
theorem Mc(l:List bH)(x:bH):lW (l++[x])=if x.o.late=true then lW l else qK (lW l) x:=by
 unfold lW;rw[List.filter_append,List.foldl_append];cases h:x.o.late <;> simp[h]
theorem TP {l:List bH} {x y:bH}(h:y∈qK l x):y=x∨y∈l:=by
 unfold qK at h
 split at h
 ·rcases List.mem_or_eq_of_mem_set h with h | h
  ·exact .inr h
  exact .inl h
 rcases List.mem_append.1 h with h | h
 ·exact .inr h
 exact .inl (List.mem_singleton.1 h)
theorem JW(l:List bH)(x:bH):(qK l x).length<=l.length+1:=by
 unfold qK
 split <;> simp
theorem MS {l:List bH} {x:bH}(h:(l.map (λy=>y.o.w)).Nodup):((qK l x).map (λy=>y.o.w)).Nodup:=by
 unfold qK
 split
 ·rename_i i d;obtain⟨-,y,c,n⟩:=wG d;rw[Nat.sub_zero]at c;have e:(l.set i x).map (λy=>y.o.w)=l.map (λy=>y.o.w):=by
   rw[List.map_set];apply List.ext_getElem?;intro j;rw[List.getElem?_set];by_cases m:i=j
   ·subst m;have p:=(List.getElem?_eq_some_iff.1 c).1;simp[p,n.symm,(List.getElem?_eq_some_iff.1 c).2]
   simp[m]
  rw[e];exact h
 rename_i d;rw[bgl,List.nodup_append];refine⟨h,by simp,?_⟩
 intro a q b k;obtain⟨y,c,rfl⟩:=List.mem_map.1 q;have k:b=x.o.w:=by simpa using k
 rw[k];exact Nl d y c
theorem JD(l:List bH):(∀x∈lW l,x∈l)/\((lW l).map (λy=>y.o.w)).Nodup/\(lW l).length<=l.length:=by
 have h:∀m a:List bH,(∀x∈m.foldl qK a,x∈a∨x∈m)/\((a.map (λy=>y.o.w)).Nodup->((m.foldl qK a).map (λy=>y.o.w)).Nodup)/\(m.foldl qK a).length<=a.length+m.length:=by
  intro m
  induction m with
  | nil=>exact λa=>⟨λx b=> .inl b,id,bfx _⟩
  | cons y m ih=>
   intro a;obtain⟨c,d,e⟩:=ih (qK a y);refine⟨λx b=>?_,λj=>d (MS j),?_⟩
   ·rcases c x b with b | b
    ·rcases TP b with rfl | b
     ·exact .inr (List.mem_cons_self ..)
     exact .inl b
    exact .inr (List.mem_cons_of_mem _ b)
   have:=JW a y;rw[List.foldl_cons,bgy];omega
 obtain⟨c,d,e⟩:=h (l.filter (λx=> !x.o.late)) [];refine⟨λx b=>?_,d (by simp),?_⟩
 ·rcases c x b with b | b
  ·cases b
  exact(List.mem_filter.1 b).1
 have:=List.length_filter_le (λx:bH=> !x.o.late) l;simp only[List.length_nil,bgu]at e;exact bgn e this
theorem Dc {d:Array Oper} {c:List Oper} {o:Oper} {a:Act} {w:World} {Q:Exit->Act->World->Prop}(e:o.guard=none)(m k v:Operand)(j:o.op=.mapUpdate 83 m k v) {b:Nat} {l:List bH}(x:bH)
  (n:a.eval m=.map (some b)) (p:a.eval k=.agg x.o.w.cells) (q:a.eval v=.agg x.cells) (r:mY w b l) (h:∀w',mY w' b (qK l x)->w.grownBy w' (some b)->wpList prog d Q c (a.put o.dst undef) w'):
  wpList prog d Q (o::c) a w:=by
 obtain⟨w',s,u,y⟩:=TY r x;refine wpList_plain e λK z=>?_;unfold Oper.wp;simp[execOp,j,n,p,q,s,Result.andThen];exact z _ _ (h w' u y)
def FinEnd(w:World)(l:List dE)(e:Ending)(w':World):Prop:=∃v ol,e=.returned v/\fU w' w.heap.size v ol/\(∀x∈ol,dL w' x)/\ol.map bH.o=l/\Bw w w'
theorem He(w:World)(la:Option Addr)(lc:Nat)(l:List bH)(hL:dZ w la l)(hG:∀x∈l,dL w x)(hV:∀x∈l,x.o.v.length<=1000000)(hl:l.length<=900000):
  Calls prog 12 #[.slice la l.length lc] w (FinEnd w (lX ((lW l).map bH.o))):=by
 obtain⟨P,hP⟩:=Nm (FinEnd w (lX ((lW l).map bH.o)):Ending->World->Prop);rw[<-hP];have HP:=Lh hP;have HI:=Lh (bfy hL (bfy hl (bfy hG hV)));obtain⟨N,hN⟩:=Nm (l.length);rw[<-hN];have aO:N<=900000:=by omega
 have HN:=Lh hN;have h1:mY (w.alloc (.map #[] 0)) w.heap.size []:=bg5 w _;have ai:Bw w (w.alloc (.map #[] 0)):=(Below.refl _ w).alloc (bfx _) _;obtain⟨w1,aj⟩:=Nm (w.alloc (.map #[] 0));obtain⟨mb,ae⟩:=Nm (w.heap.size);rw[<-aj]at h1 ai;rw[<-ae]at h1;have H1:=Lh (bfy h1 (bfy ai ae));have aJ:=@run_makeMap prog;clear hL hl hN hG hV hP h1 ai;go_enter func12,ntmps12;go_upto_region 2 with fail;rw[<-aj,<-ae];clear aj ae aJ;go_wp2_with fail;go_loopw[12] (λu wr=>∃i:Nat,i<=N/\u=.int .i64 (i:Int)/\mY wr mb (lW (l.take i))/\Bw w wr) (λu _=>N-(intOf u).toNat)
 case atStart=>exact⟨0,bgi _,rfl,H1.out.1,H1.out.2.1⟩
 case round=>
  obtain⟨i,hi,rfl,hM,hB⟩:=hrel;have HO:=Lh (bfy hM hB);clear hM;by_cases af:i<N
  ·have aP:(0:Int)<=(i:Int)/\(i:Int)<N:=by omega
   have ax:=Lh af;obtain⟨x,Z⟩:∃x,l[i]? =some x:=⟨_,bfs (by rw[<-HN.out];exact af)⟩
   obtain⟨b,o,rfl,hq⟩:∃b o,la=some ⟨b,o,none⟩/\∀j v,x.cells[j]? =some v->w.cell? ⟨b,o+i*10+j,none⟩=some v:=by
    rcases HI.out.1 with h | ⟨b,o,h1,h2⟩
    ·have:=HN.out;rw[h]at this;simp at this;omega
    exact⟨b,o,h1,h2 i x Z⟩
   have hc:∀j v,x.cells[j]? =some v->wr.cell? ⟨b,o+i*10+j,none⟩=some v:=λj v h=>(hB.cell (p:=⟨b,o+i*10+j,none⟩) (block_lt_of_cell (hq j v h))).trans (hq j v h);have ay:lW (l.take (i+1))=if x.o.late=true then lW (l.take i)else qK (lW (l.take i)) x:=by
    rw[List.take_add_one,Z];exact Mc _ x
   have HX:=Lh ay;have az:=Lh Z;clear hq ay hB Z;obtain⟨S,U,hv,-,-⟩:=HI.out.2.2.1 x (bf3 az.out);obtain⟨D,aa⟩:=Nm (x.o.v.length);rw[<-aa]at hv;clear az;obtain⟨x_,M⟩:=Nm (x:bH);rw[<-M]at HX;obtain⟨⟨late,⟨ik,XV,it,iv⟩,⟨wk,wl,wh⟩,r,v⟩,tv,YC⟩:=x;have hv:tv=.slice S D U:=hv;subst hv;have Yp:Hid (x_.o.late=late/\(Value.agg x_.o.w.cells=.agg #[Sv wk,.int .i64 wl,.int .i64 wh])/\Value.agg x_.cells=.agg #[.bool late,.int .i64 ik,Sv XV,.int .i64 it,.int .i64 iv,Sv wk,.int .i64 wl,.int .i64 wh,.int .i64 r,.slice S D U]):=by
    rw[M];exact Lh ⟨rfl,rfl,rfl⟩
   clear M aa;have e0:wr.cell? ⟨b,o+i*10,none⟩=some (.bool late):=hc 0 _ rfl;have e1:wr.cell? ⟨b,o+i*10+1,none⟩=some (.int .i64 ik):=hc 1 _ rfl;have e2:wr.cell? ⟨b,o+i*10+2,none⟩=some (Sv XV):=hc 2 _ rfl;have e3:wr.cell? ⟨b,o+i*10+3,none⟩=some (.int .i64 it):=hc 3 _ rfl;have e4:wr.cell? ⟨b,o+i*10+4,none⟩=some (.int .i64 iv):=hc 4 _ rfl;have e5:wr.cell? ⟨b,o+i*10+5,none⟩=some (Sv wk):=hc 5 _ rfl;have e6:wr.cell? ⟨b,o+i*10+6,none⟩=some (.int .i64 wl):=hc 6 _ rfl;have e7:wr.cell? ⟨b,o+i*10+7,none⟩=some (.int .i64 wh):=hc 7 _ rfl;have e8:wr.cell? ⟨b,o+i*10+8,none⟩=some (.int .i64 r):=hc 8 _ rfl;have e9:wr.cell? ⟨b,o+i*10+9,none⟩=some (.slice S D U):=hc 9 _ rfl;clear hc;go_upto_region 5 with fail;obtain⟨J,E⟩:=Nm (wr.alloc (.cells #[.bool late,.int .i64 ik,Sv XV,.int .i64 it,.int .i64 iv,Sv wk,.int .i64 wl,.int .i64 wh,.int .i64 r,.slice S D U] 37));obtain⟨m,O⟩:=Nm (wr.heap.size);have d:J.heap[m]? =some (.cells #[.bool late,.int .i64 ik,Sv XV,.int .i64 it,.int .i64 iv,Sv wk,.int .i64 wl,.int .i64 wh,.int .i64 r,.slice S D U] 37 (0,0)):=by rw[E,O];exact bg5 wr _
   have Q:Bw wr J:=by rw[E];exact(Below.refl _ wr).alloc (bfx _) _
   rw[<-E,<-O];have H2:=Lh (bfy (HO.out.1.below Q) (HO.out.2.trans (Q.mono HO.out.2.size)));clear E O Q e0 e1 e2 e3 e4 e5 e6 e7 e8 e9;have e0:J.cell? ⟨m,0,none⟩=some (.bool late):=by rw[cell_of_row _ _ _ _ _ _ d];rfl
   have e1:J.cell? ⟨m,1,none⟩=some (.int .i64 ik):=by rw[cell_of_row _ _ _ _ _ _ d];rfl
   have e2:J.cell? ⟨m,2,none⟩=some (Sv XV):=by rw[cell_of_row _ _ _ _ _ _ d];rfl
   have e3:J.cell? ⟨m,3,none⟩=some (.int .i64 it):=by rw[cell_of_row _ _ _ _ _ _ d];rfl
   have e4:J.cell? ⟨m,4,none⟩=some (.int .i64 iv):=by rw[cell_of_row _ _ _ _ _ _ d];rfl
   have e5:J.cell? ⟨m,5,none⟩=some (Sv wk):=by rw[cell_of_row _ _ _ _ _ _ d];rfl
   have e6:J.cell? ⟨m,6,none⟩=some (.int .i64 wl):=by rw[cell_of_row _ _ _ _ _ _ d];rfl
   have e7:J.cell? ⟨m,7,none⟩=some (.int .i64 wh):=by rw[cell_of_row _ _ _ _ _ _ d];rfl
   have e8:J.cell? ⟨m,8,none⟩=some (.int .i64 r):=by rw[cell_of_row _ _ _ _ _ _ d];rfl
   have e9:J.cell? ⟨m,9,none⟩=some (.slice S D U):=by rw[cell_of_row _ _ _ _ _ _ d];rfl
   clear d
   cases late with
   | true=>
    go_wp2_with fail;have af:=ax.out;have ab:=HX.out;rw[if_pos Yp.out.1]at ab;exact⟨⟨i+1,by omega,by go_num,by rw[ab];exact H2.out.1,H2.out.2⟩,by simp[intOf];omega⟩
   | false=>
    go_upto_region 6 with fail;refine bg4 ?_
    iterate 12 go_step
    refine Dc rfl (.tmp 19) (.tmp 21) (.tmp 22) rfl x_ rfl Yp.out.2.1.symm Yp.out.2.2.symm H2.out.1 ?_;intro w3 uS I;have ab:=HX.out;rw[if_neg (by rw[Yp.out.1];decide)]at ab
    rw[<-ab]at uS;have aA:Bw w w3:=H2.out.2.trans ⟨I.os,I.tape,I.output,I.size,λk hk=>I.block k (Nat.lt_of_lt_of_le hk H2.out.2.size) (by have:=H1.out.2.2;simp;omega)⟩
    have H3:=Lh (bfy uS aA);clear uS aA ab I e0 e1 e2 e3 e4 e5 e6 e7 e8 e9;dsimp only;go_wp2_with fail;have af:=ax.out;exact⟨⟨i+1,by omega,by go_num,H3.out.1,H3.out.2⟩,by simp[intOf];omega⟩
  obtain rfl:i=N:=by omega
  obtain⟨L,IQ⟩:=Nm (lW l);have IR:mY wr mb L:=by
   have h:=HO.out.1;rw[HN.out,bgs,<-IQ]at h;exact h
  obtain⟨ak,al,aB⟩:=JD l;rw[<-IQ]at ak al aB;have aK:=Nj IR;obtain⟨J,E⟩:=Nm (wr.alloc (.mapIter (some mb) L.length #[] L.length));obtain⟨rb,am⟩:=Nm (wr.heap.size);have Q:Bw wr J:=by rw[E];exact(Below.refl _ wr).alloc (bfx _) _
  have aC:nS J rb mb L.length []:=by rw[E,am];exact⟨L.length,bfx _,bg5 wr _⟩
  have aD:KD w mb rb L [] [] bM [] J:=⟨List.nodup_nil,λj hj=>(by cases hj),IR.below Q,aC,fU.nil _ _,λx Z=>(by cases Z),rfl,HO.out.2.trans (Q.mono HO.out.2.size),by
   have h1:=IR.lt;have h2:=H1.out.2.2;have h3:J.heap.size=wr.heap.size+1:=by rw[E];exact bg wr _
   omega⟩
  rw[<-E,<-am]at aK;have HF:=Lh (bfy aD (bfy ak (bfy al (bfy (show L.length<=900000 by have:=HI.out.2.1;omega) (bfy IQ (show w.heap.size<=rb by have:=HO.out.2.size;omega))))))
  clear IR ak al aB E am Q aC aD IQ;go_wp2_with fail;go_loopw[6] (λu wr=>∃js ol v,v=u/\KD w mb rb L js js v ol wr) (λ_ wr=>L.length-(wr.iterSeen rb).size)
  case atStart=>exact⟨[],[],bM,rfl,HF.out.1⟩
  case round=>
   obtain⟨js,ol,v,rfl,s⟩:=hrel;rcases Q7 s.map s.it 0 with⟨K,Y⟩ | ⟨j,x,w3,hj,Z,Y,uS,oW,I,aL,an⟩
   ·have aM:=Lh (bfy s K);have ac:ol.length<=1000000:=by
     have h1:=congrArg List.length s.eq;simp only[bfz]at h1;have h2:=(G5 s.nd s.lt K).length_eq;rw[List.length_range]at h2;have:=HF.out.2.2.2.1;omega
    have HS:=Lh (Rk wr (rb+1) v ol s.own ac);clear s K ac;go_wp2_with fail;refine HS.out.mono ?_;rintro e w9 ⟨rfl,Zp,R,ad,iL,o6⟩;have H9:Hid (fU w9 w.heap.size v Zp/\(∀x∈Zp,dL w9 x)/\Zp.map bH.o=lX ((lW l).map bH.o)/\Bw w w9):=by
     obtain⟨s,K⟩:=aM.out;have aR:=s.low;refine Lh ⟨iL.mono (by omega),λx Z=>bC.NR (s.good x (R.mem_iff.1 Z)) s.own o6,?_,s.bel.trans ⟨o6.os,o6.tape,o6.output,o6.size,λk hk=>o6.block k (Nat.lt_of_lt_of_le hk s.bel.size) (λe=>by have:=(s.own.lt e.symm).1;omega)⟩⟩
     rw[<-HF.out.2.2.2.2.1];refine DZ ?_ ?_ ?_
     ·rw[List.map_map];exact HF.out.2.2.1
     ·refine(R.map bH.o).trans ?_;rw[s.eq,<-BF L];exact(G5 s.nd s.lt K).map _
     rw[List.pairwise_map];exact ad.imp λh h'=>h ((kV _ _).2 h')
    clear R ad iL o6;dsimp only;go_wp2_with fail;rw[HP.out];exact⟨_,Zp,rfl,H9.out.1,H9.out.2.1,H9.out.2.2.1,H9.out.2.2.2⟩
   have ag:j<L.length:=(List.getElem?_eq_some_iff.1 Z).1;have ao:=HF.out.2.1 x (bf3 Z);have ap:dL w x:=HI.out.2.2.1 x ao;have aE:=HI.out.2.2.2 x ao;have aF:x.o=(L.getD j dD).o:=by rw[List.getD_eq_getElem?_getD,Z];rfl
   have ar:=MH s.nd s.lt ag hj;have iQ:(wr.iterSeen rb).size=js.length:=by
    obtain⟨c,_,h⟩:=s.it;simp[World.iterSeen,h]
   have uh:(w3.iterSeen rb).size=js.length+1:=by
    obtain⟨c,_,h⟩:=oW;simp[World.iterSeen,h]
   have au:=s.next hj ag uS oW I;have F:=Lh (bfy au (bfy (ap.below au.bel) (bfy aF (bfy ar (bfy iQ (bfy aE ag))))));obtain⟨S,U,hv,-,-⟩:=id ap;obtain⟨D,aa⟩:=Nm (x.o.v.length);rw[<-aa]at hv;clear ag ao ap aE aF ar iQ uh au s hj Z uS oW I aL;obtain⟨x_,M⟩:=Nm (x:bH);rw[<-M]at F;obtain⟨⟨late,⟨ik,XV,it,iv⟩,⟨wk,wl,wh⟩,r,vv⟩,tv,YC⟩:=x;have hv:tv=.slice S D U:=hv;subst hv;unfold bH.cells bf.cells at Y an;simp only at Y an;have oO:Hid (D=vv.length/\x_=⟨⟨late,⟨ik,XV,it,iv⟩,⟨wk,wl,wh⟩,r,vv⟩,.slice S D U,YC⟩):=Lh ⟨aa,M⟩;clear M aa;go_upto_region 12 with fail;obtain⟨w4,ah⟩:=Nm (w3.alloc (.cells #[.bool late,.int .i64 ik,Sv XV,.int .i64 it,.int .i64 iv,Sv wk,.int .i64 wl,.int .i64 wh,.int .i64 r,.slice S D U] 37));obtain⟨m,O⟩:=Nm (w3.heap.size);have H4:Hid (fH w4 m x_/\KD w mb rb L (js++[j]) js v ol w4/\bC w4 (.slice S D U) vv/\rb<m/\v.ownBlock≠some m):=by
    have aG:Bw w3 w4:=by rw[ah];exact(Below.refl _ w3).alloc (bfx _) _
    have d:fH w4 m x_:=by
     rw[oO.out.2,ah,O];exact bg5 w3 _
    have hg:=F.out.2.1;rw[oO.out.2]at hg;refine Lh ⟨d,F.out.1.below aG,bC.below hg aG,by have:=F.out.1.low;omega,λe=>?_⟩
    have:=(F.out.1.own.lt e).2;omega
   rw[<-ah,<-O];clear ah O Y an;have HC:=Lh (vT w4 (.slice S D U) vv H4.out.2.2.1 (by have h:=F.out.2.2.2.2.2.1;rw[oO.out.2]at h;exact h))
   have q:=H4.out.1;rw[oO.out.2]at q;have e9:w4.cell? ⟨m,9,none⟩=some (.slice S D U):=q.cell 9 rfl;clear q;go_wp2_with fail;refine HC.out.mono ?_;rintro e w5 ⟨nv,rfl,uQ,av,-⟩;obtain⟨na,nc,o9,-,-⟩:=id uQ;rw[<-oO.out.1]at o9;subst o9;have H5:=Lh (bfy (H4.out.1.below av) (bfy (H4.out.2.1.below av) uQ));clear uQ av e9;have q:=H5.out.1;rw[oO.out.2]at q;have e9:w5.cell? ⟨m,9,none⟩=some (.slice S D U):=q.cell 9 rfl;have f9:=q.fro 9;obtain⟨y,hy⟩:=Nm (⟨⟨late,⟨ik,XV,it,iv⟩,⟨wk,wl,wh⟩,r,vv⟩,.slice na D nc,rfl⟩:bH);have H6:Hid (fH (w5.setCell ⟨m,9,none⟩ (.slice na D nc)) m y/\KD w mb rb L (js++[j]) js v ol (w5.setCell ⟨m,9,none⟩ (.slice na D nc))/\dL (w5.setCell ⟨m,9,none⟩ (.slice na D nc)) y/\y.o=(L.getD j dD).o):=by
    have hg:w5.grownBy (w5.setCell ⟨m,9,none⟩ (.slice na D nc)) (some m):=⟨rfl,rfl,rfl,by simp[World.setCell],λk _ aN=>heap_setCell_other _ _ _ _ (show k≠m from λe=>aN (by rw[e]))⟩
    refine Lh ⟨?_,H5.out.2.1.put H5.out.1 H4.out.2.2.2.1 H4.out.2.2.2.2 hg,?_,?_⟩
    ·rw[hy];exact(heap_setCell_same w5 m 9 _ _ _ q).trans rfl
    ·rw[hy];exact bC.grown H5.out.2.2 hg (λa n c e hn=>bC.apart H5.out.2.2 e hn H5.out.1 (by decide))
    rw[<-F.out.2.2.1,hy,oO.out.2]
   clear q;dsimp only;go_upto_region 13 with fail;obtain⟨w6,aH⟩:=Nm (w5.setCell ⟨m,9,none⟩ (.slice na D nc));rw[<-aH]at H6 ⊢;clear aH e9 f9;have q:=H6.out.1;rw[hy]at q;obtain⟨e0,e1,e2,e3,e4,e5,e6,e7,e8,e9⟩:=q.d10;simp only at e0 e1 e2 e3 e4 e5 e6 e7 e8 e9;clear q;have Ey:Hid (Value.agg y.cells=.agg #[.bool late,.int .i64 ik,Sv XV,.int .i64 it,.int .i64 iv,Sv wk,.int .i64 wl,.int .i64 wh,.int .i64 r,.slice na D nc]):=by rw[hy];exact Lh rfl
   clear hy;refine bg4 ?_
   iterate 6 go_step
   refine lU rfl (.tmp 35) rfl y Ey.out.symm ?_;have aw:Bw w6 (w6.alloc (.cells y.cells 37)):=(Below.refl _ w6).alloc (bfx _) _;have IU:=H6.out.2.1.below aw;have ac:ol.length+1<=1000000:=by
    have h1:=congrArg List.length H6.out.2.1.eq;simp only[bfz]at h1;have h2:=F.out.2.2.2.1;have h3:=HF.out.2.2.2.1;omega
   refine qR rfl (.tmp 34) (.tmp 36) rfl (rb+1) v ol rfl IU.own y w6.heap.size rfl (λj z hj=>by rw[cell_of_row _ _ _ _ _ _ (bg5 w6 _)];exact hj) ac (by have:=IU.low;omega) ?_
   intro v' w8 uU aQ UK;have aI:=IU.app (dL.below H6.out.2.2.1 aw) H6.out.2.2.2 aQ uU;have H8:=Lh aI;clear IU aw ac uU aQ UK aI e0 e1 e2 e3 e4 e5 e6 e7 e8 e9;go_wp2_with fail;have ar:=F.out.2.2.2.1;refine⟨⟨_,_,_,rfl,H8.out⟩,?_⟩;have h1:=F.out.2.2.2.2.1;have h2:(w8.iterSeen rb).size=js.length+1:=by
    obtain⟨c,_,h⟩:=H8.out.it;simp[World.iterSeen,h]
   omega
end Go.Proofs.YtgfmbkoieacgoaaGreatDoor
set_option maxRecDepth 100000
namespace Go.Proofs.YtgfmbkoieacgoaaGreatDoor
open Go Go.RowKit Go.Proofs.Tryz
theorem QR(w:World)(d:Int)(N:Value)(a:List bn)(l:Int)(O:Value)(c:List bn)(Q:cZ w N a)(u:cZ w O c)(R:∀x∈a,di w x)(S:∀x∈c,di w x)(I:tY a)(J:tY c):
  Calls prog 39 #[.agg #[.int .i64 d,N],.agg #[.int .i64 l,O]] w (Below0 w (.bool (decide ((⟨d,a.map bn.p⟩:df)=⟨l,c.map bn.p⟩)))):=by
 obtain⟨r,K⟩:=Nm (decide ((⟨d,a.map bn.p⟩:df)=⟨l,c.map bn.p⟩));rw[<-K];obtain⟨m,n,rfl,_,y⟩:=Q.form;obtain⟨z,D,rfl,_,E⟩:=u.form;obtain⟨s,h⟩:=Nm ((w.alloc (.cells #[.int .i64 d,.slice m a.length n] 72)).alloc (.cells #[.int .i64 l,.slice z c.length D] 72));obtain⟨xb,j⟩:=Nm (w.heap.size);obtain⟨yb,k⟩:=Nm (w.heap.size+1);have o:(w.alloc (.cells #[.int .i64 d,.slice m a.length n] 72)).heap.size=w.heap.size+1:=bg w _;have L:Hid (bZ s xb d (.slice m a.length n)/\bZ s yb l (.slice z c.length D)/\Bw w s):=by
  have k1:=(Below.refl _ w).alloc (bfx _) (.cells #[.int .i64 d,.slice m a.length n] 72);have U:=(Below.refl _ (w.alloc (.cells #[.int .i64 d,.slice m a.length n] 72))).alloc (bfx _) (.cells #[.int .i64 l,.slice z c.length D] 72);rw[h,j,k];refine Lh ⟨bZ.below (bg5 w _) U,?_,Tb k1 U⟩;rw[<-o];exact bg5 _ _
 have b:=Lh L.out.2.2;have Y:Hid (Calls prog 94 #[.slice m a.length n,.slice z c.length D,.func (.func 95) #[] #[]] s (Below0 s (.bool (decide (a.map bn.p=c.map bn.p))))):=
  Lh (Td s m z n D a c (y.below b.out) (E.below b.out) (λx F=>⟨(R x F).below b.out,(I.1 x F).2⟩) (λx F=>⟨(S x F).below b.out,(J.1 x F).2⟩) I.2 J.2)
 obtain⟨Z,q⟩:=Nm (decide (a.map bn.p=c.map bn.p));rw[<-q]at Y;have HR:Hid (r=(decide (d=l) && Z)):=by
  rw[K,q];refine Lh (Bool.eq_iff_iff.2 ?_);simp
 clear Q u R S I J y E K q;obtain⟨e0,e1⟩:=L.out.1.d2;obtain⟨f0,f1⟩:=L.out.2.1.d2;by_cases M:d=l
 ·subst M;obtain rfl:r=Z:=by rw[HR.out,bfr rfl,bgw]
  go_enter func39,ntmps39;go_upto_region 1 with fail;rw[<-h,<-k,<-j];clear h j k o;go_wp2_with fail;refine Y.out.mono ?_;rintro e w2 ⟨rfl,u⟩;have HZ:=Lh (Tb b.out u);clear u e0 e1 f0 f1;dsimp only;go_wp2_with fail;go_ret;exact⟨rfl,HZ.out⟩
 obtain rfl:r=false:=by rw[HR.out,bfq M,Bool.false_and]
 have ab:(d==l)=false:=by simpa using M
 go_enter func39,ntmps39;go_upto_region 1 with fail;rw[<-h,<-k,<-j];clear h j k o;go_wp2_with fail;go_ret;exact⟨rfl,b.out⟩
theorem vC(w:World)(b c:Option Addr)(d h:Nat)(l m:List bH)(j:dZ w b l)(a:dZ w c m)(k:∀x∈l,dL w x/\x.o.v.length<=1000000)(n:∀x∈m,dL w x/\x.o.v.length<=1000000)(p:l.length<=1000000)(q:m.length<=1000000):
  Calls prog 34 #[.slice b l.length d,.slice c m.length h] w (Below0 w (.bool (decide (l.map bH.o=m.map bH.o)))):=by
 have r:=Lh (Tc w b c d h l m j a k n p q);clear j a k n p q;go_enter func34,ntmps34;go_wp2_with fail;refine r.out.mono ?_;rintro e u ⟨rfl,a⟩;have s:=Lh a;clear a;dsimp only;go_wp2_with fail;go_ret;exact⟨rfl,s.out⟩
theorem gG.store {w w':World} {v:Value} {s:df} {b n c:Nat} {m:Int} {a:Option Addr}(h:gG w v s)(d:bZ w b m (.slice a n c))(e:w.grownBy w' (some b)):gG w' v s:=by
 obtain⟨j,l,k,o,p,q⟩:=h;exact⟨j,l,k,o.store d e,λx r=>(p x r).lT d e,q⟩
def FC(r:kK)(w:World)(v:Value):Prop:=∃sv ov,v=.tuple #[sv,ov,.int .i64 r.n,.int .i64 r.e]/\gG w sv r.s/\fM w ov r.outs
def WR(B:Nat)(r:kK)(k:Nat)(w:World)(v:Value):Prop:=∃b,v=.pointer (some ⟨b,0,none⟩)/\B<=b/\if k<=1 then bZ w b 0 bM else ∃m pv,bZ w b m pv/\gG w (.agg #[.int .i64 m,pv]) r.s
theorem FC.below {r:kK} {w w':World} {v:Value}(h:FC r w v)(a:Bw w w'):FC r w' v:=by
 obtain⟨b,c,d,e,j⟩:=h;exact⟨b,c,d,e.below a,j.below a⟩
theorem FC.store {r:kK} {w w':World} {v:Value} {b:Nat}(h:FC r w v)(a:bZ w b 0 bM)(c:w.grownBy w' (some b)):FC r w' v:=by
 obtain⟨d,e,j,k,l⟩:=h;exact⟨d,e,j,k.store a c,l.store a c⟩
def Wn(c B:Nat)(r:kK):List (Nat × (Nat->World->Value->Prop)):=
 [(c,λ_ w v=>FC r w v),(c+1,λ_ w v=>FC r w v),(c+2,λ_ w v=>gG w v r.s),(c+3,λ_ w v=>fM w v r.outs),(c+6,WR B r),(c+8,λ_ w v=>fM w v r.outs)]
theorem Wp {c B:Nat} {r:kK}:∀p∈Wn c B r,∀k w w' v,Bw w w'->p.2 k w v->p.2 k w' v:=by
 intro p j k w w' v a h;simp only[Wn,bf2,bf9,or_false]at j;rcases j with rfl | rfl | rfl | rfl | rfl | rfl
 ·exact FC.below h a
 ·exact FC.below h a
 ·exact gG.below h a
 ·exact fM.below h a
 ·obtain⟨b,l,n,d⟩:=h;refine⟨b,l,n,?_⟩
  split at d
  ·rename_i e;rw[if_pos e];exact d.below a
  rename_i e;rw[if_neg e];obtain⟨m,o,q,s⟩:=d;exact⟨m,o,q.below a,s.below a⟩
 exact fM.below h a
theorem PO {c B:Nat} {r:kK} {w w':World} {l:List Oper} {a:Act}(b:Bw w w'):∀p∈Wn c B r,c+6=p.1∨∀d,dstAt l p.1=some d->p.2 0 w (a.eval (.tmp d))->p.2 1 w' (a.eval (.tmp d)):=by
 intro p e;simp only[Wn,bf2,bf9,or_false]at e;rcases e with rfl | rfl | rfl | rfl | rfl | rfl
 ·exact .inr λd _ h=>FC.below h b
 ·exact .inr λd _ h=>FC.below h b
 ·exact .inr λd _ h=>gG.below h b
 ·exact .inr λd _ h=>fM.below h b
 ·exact .inl rfl
 exact .inr λd _ h=>fM.below h b
theorem Sl {c B t:Nat} {r:kK} {w w':World} {b:Nat} {m:Int} {k:Value} {l:List Oper} {a:Act}(u:dstAt l (c+6)=some t)(x:a.eval (.tmp t)=.pointer (some ⟨b,0,none⟩))(e:bZ w b 0 bM)(n:B<=b)(j:w.grownBy w' (some b))(y:bZ w' b m k)
  (z:gG w' (.agg #[.int .i64 m,k]) r.s):∀p∈Wn c B r,c+7=p.1∨∀d,dstAt l p.1=some d->p.2 1 w (a.eval (.tmp d))->p.2 2 w' (a.eval (.tmp d)):=by
 intro p o;simp only[Wn,bf2,bf9,or_false]at o;rcases o with rfl | rfl | rfl | rfl | rfl | rfl
 ·exact .inr λd _ h=>FC.store h e j
 ·exact .inr λd _ h=>FC.store h e j
 ·exact .inr λd _ h=>gG.store h e j
 ·exact .inr λd _ h=>fM.store h e j
 ·refine .inr λd q _=>?_;rw[u]at q;cases q
  refine⟨b,x,n,?_⟩;rw[if_neg (by decide)]
  exact⟨m,k,y,z⟩
 exact .inr λd _ h=>fM.store h e j
open Go Go.RowKit Go.Proofs.Tryz
theorem BQ {q:bu} {s:df} {its:List ItemL}(b:dJ q s.panes 256)(c:∀x∈its,x.key.length<=1000000):gU (jo q s its).outs/\(jo q s its).outs.length<=256*its.length/\dJ q (jo q s its).s.panes 256:=by
 unfold jo
 split
 ·exact⟨λx a=>by simp at a,by simp,b⟩
 obtain⟨d,e,h⟩:=JZ its s [] 0 b c (λx a=>by simp at a)
 exact⟨d,by simpa using e,h⟩
theorem zH(q:bu):dJ q jK.panes 256:=by
 refine⟨?_,λx a=>by simp[jK]at a,by decide⟩
 unfold fG jK gJ
 split
 ·exact bfr dM.nil
 exact bfr List.Pairwise.nil
theorem F5 {q:bu} {l:List bn} {s:df}(h:dJ q s.panes 256)(a:s.panes=l.map bn.p):tY l:=by
 rw[a]at h;exact(h.sorted (by decide)).1
theorem VI {w:World} {e j:Int} {c d:Value} {l m:bu} {a b:df}(n:gG w (.agg #[.int .i64 e,c]) a)(o:gG w (.agg #[.int .i64 j,d]) b)(c1:dJ l a.panes 256)(c2:dJ m b.panes 256):
  Calls prog 39 #[.agg #[.int .i64 e,c],.agg #[.int .i64 j,d]] w (Below0 w (.bool (decide (a=b)))):=by
 obtain⟨p,q,r,s,u,k⟩:=n;obtain⟨p2,x,y,z,D,d2⟩:=o;have E:e=a.mark/\c=p:=by simpa using r
 have F:j=b.mark/\d=p2:=by simpa using y
 obtain⟨rfl,rfl⟩:=E;obtain⟨rfl,rfl⟩:=F;have h:=QR w a.mark c q b.mark d x s z u D (F5 c1 k) (F5 c2 d2);rw[<-k,<-d2]at h;exact h
theorem J5 {w:World} {d e:Value} {b c:List dE}(k:fM w d b)(l:fM w e c)(m:gU b)(n:gU c)(h:b.length<=1000000)(j:c.length<=1000000):
  Calls prog 34 #[d,e] w (Below0 w (.bool (decide (b=c)))):=by
 obtain⟨p,c1,q,rfl,_,r,s,rfl⟩:=k;obtain⟨u,c2,y,rfl,_,z,D,rfl⟩:=l;rw[bfz]at h j;exact vC w p u c1 c2 q y r z (λx a=>⟨s x a,m x.o (List.mem_map.2 ⟨x,a,rfl⟩)⟩) (λx a=>⟨D x a,n x.o (List.mem_map.2 ⟨x,a,rfl⟩)⟩) h j
open Go Go.RowKit Go.Proofs.Tryz
def dR(q:bu):df->List dE->Int->List ItemL->kK
 | s,o,n,[]=>⟨s,o,n,0⟩
 | s,o,n,x::l=>if (jo q s [x]).e=0 then dR q (jo q s [x]).s (o++(jo q s [x]).outs) (n+1) l else dR q s o n l
theorem QT {q:bu}:∀(d:List ItemL) (s:df) (o:List dE) (n:Int),(∀x∈d,x.key.length<=1000000)->
  0<=(jo q s d).n/\(jo q s d).n<=d.length/\dR q s o n d=dR q (jo q s d).s (o++(jo q s d).outs) (n+(jo q s d).n) (d.drop ((jo q s d).n.toNat+1)):=by
 intro d
 induction d with
 | nil=>
  intro s o n _;rw[TS];simp[dR]
 | cons x l ih=>
  intro s o n m;have e:=m x (by simp)
  have h:∀y∈l,y.key.length<=1000000:=λy p=>m y (by simp[p])
  cases hR:fQ q s with
  | false=>
   rw[BR hR (by simp)]
   have a:=BR (l:=[x]) hR (by simp)
   refine⟨by simp,by simp only[bgy];omega,?_⟩
   simp only[dR,a];simp
  | true=>
   have a:jo q s [x]=if (stepS q s x).2.2=0 then ⟨(stepS q s x).1,(stepS q s x).2.1,1,0⟩else ⟨s,[],0,(stepS q s x).2.2⟩:=by
    rw[wF hR];simp[lJ]
   have b:jo q s (x::l)=if (stepS q s x).2.2=0 then lJ q (stepS q s x).1 ([]++(stepS q s x).2.1) (0+1) l else ⟨s,[],0,(stepS q s x).2.2⟩:=by
    rw[wF hR];rfl
   by_cases c:(stepS q s x).2.2=0
   ·rw[if_pos c]at a b;have j:=J7 e hR c;have r:=wF j l;obtain⟨D,E,u⟩:=ih (stepS q s x).1 (o++(stepS q s x).2.1) (n+1) h;rw[yG,<-r]at b;rw[b];refine⟨by simp only;omega,by simp only[bgy];omega,?_⟩
    have k:dR q s o n (x::l)=dR q (stepS q s x).1 (o++(stepS q s x).2.1) (n+1) l:=by
     simp only[dR,a];simp
    have z:(0+1+(jo q (stepS q s x).1 l).n).toNat+1=(jo q (stepS q s x).1 l).n.toNat+1+1:=by omega
    rw[k,u];simp only[List.nil_append,z,List.drop_succ_cons,bgz];rw[show n+1+(jo q (stepS q s x).1 l).n=n+(0+1+(jo q (stepS q s x).1 l).n) by omega]
   rw[if_neg c]at a b;rw[b];refine⟨by simp,by simp only[bgy];omega,?_⟩
   have k:dR q s o n (x::l)=dR q s o n l:=by
    simp only[dR,a];rw[if_neg c]
   rw[k];simp
theorem Nb {q:bu}:∀(l:List ItemL) (s:df) (o:List dE) (n:Int),dJ q s.panes 256->(∀x∈l,x.key.length<=1000000)->n<=(lJ q s o n l).n/\(lJ q s o n l).outs.length<=o.length+256*((lJ q s o n l).n-n).toNat:=by
 intro l
 induction l with
 | nil=>
  intro s o n _ _;exact⟨Int.le_refl _,Nat.le_add_right _ _⟩
 | cons x l ih=>
  intro s o n a b;rw[tN]
  split
  ·rename_i c;have h:=wH (q:=q) (x:=x) (show s.panes.length<=256 from a.2.2) (by decide)
   obtain⟨j,d⟩:=ih (stepS q s x).1 (o++(stepS q s x).2.1) (n+1) (xN a (b x (by simp)) c) (λy e=>b y (by simp[e]))
   rw[bft]at d;exact⟨by omega,by omega⟩
  exact⟨Int.le_refl _,Nat.le_add_right _ _⟩
theorem Na {q:bu} {s:df} {l:List ItemL}(a:dJ q s.panes 256)(b:∀x∈l,x.key.length<=1000000):(jo q s l).outs.length<=256*(jo q s l).n.toNat:=by
 unfold jo
 split
 ·exact bgi _
 have h:=(Nb l s [] 0 a b).2;simpa using h
theorem ItemsAt.take {w:World} {a:Option Addr} {l:List ItemL}(h:ItemsAt w a l)(i:Nat):ItemsAt w a (l.take i):=by
 rcases h with h | ⟨b,o,h,d⟩
 ·left
  rw[h,List.take_nil]
 right
 refine⟨b,o,h,λj x c=>d j x ?_⟩;rw[List.getElem?_take]at c
 split at c
 ·exact c
 cases c
theorem ItemsAt.cut {w:World} {b o:Nat} {l:List ItemL}(h:ItemsAt w (some ⟨b,o,none⟩) l)(i:Nat):ItemsAt w (some ⟨b,o+i*4,none⟩) (l.drop i):=by
 rcases h with h | ⟨e,m,h,c⟩
 ·left
  rw[h,List.drop_nil]
 right
 cases h
 refine⟨b,o+i*4,rfl,λj x a k v d=>?_⟩;rw[List.getElem?_drop]at a;have:=c (i+j) x a k v d
 rwa [show o+(i+j)*4+k=o+i*4+j*4+k by omega]at this
theorem TC(a:Option Addr)(n c i:Nat)(h:i<=c)(w:World):
  (Instr.slice 24 (.slice a n c) none (some (.int .i64 (i:Int))) none).run prog w=.ok (.slice a i c) w:=by
 have b:∀w,(sizeOf 32).run prog w=.ok 4 w:=sizeOf32;cases a <;> simp[Instr.slice,run_underlying underlying24,Instr.sliceBounds,run_sliceBound,b,h,sN]
theorem L9 {w:World} {a:Option Addr} {l:List ItemL}(m:ItemsAt w a l)(n c i:Nat)(u:n=l.length)(d:i<=n)(x:n<=c)(p:a=none->c=0):
  ∃k q,(∀w',(Instr.slice 24 (.slice a n c) (some (.int .i64 (i:Int))) none none).run prog w'=.ok (.slice k (n-i) q) w')/\ItemsAt w k (l.drop i):=by
 have j:∀w,(sizeOf 32).run prog w=.ok 4 w:=sizeOf32;by_cases e:c=i
 ·have r:l.drop i=[]:=List.drop_eq_nil_of_le (by omega)
  subst e;cases a <;> exact⟨_,_,λw'=>by simp[Instr.slice,run_underlying underlying24,Instr.sliceBounds,run_sliceBound,j,d];exact⟨rfl,rfl⟩,.inl r⟩
 cases a with
 | none=>exact absurd (p rfl) (by omega)
 | some ad=>
  rcases m with h | ⟨b,o,h,s⟩
  ·refine⟨_,_,λw'=>by simp[Instr.slice,run_underlying underlying24,Instr.sliceBounds,run_sliceBound,j,d,e];exact⟨rfl,rfl⟩,.inl (by rw[h,List.drop_nil])⟩
  cases h
  exact⟨some ⟨b,o+i*4,none⟩,c-i,λw'=>by simp[Instr.slice,run_underlying underlying24,Instr.sliceBounds,run_sliceBound,j,d,addr_add,e],ItemsAt.cut (.inr ⟨b,o,rfl,s⟩) i⟩
theorem rP:((prog.info? 32).map λi=>(i.zero,i.size,i.bytes))=some (some (.agg #[.int .i64 0,.string ⟨#[]⟩,.int .i64 0,.int .i64 0]),4,40):=by kernel_rfl
theorem zC {d:Array Oper} {b:List Oper} {o:Oper} {a:Act} {w:World} {Q:Exit->Act->World->Prop}(j:o.guard=none)(y:Operand)(k:o.op=.buildSlice 24 1 #[(0,y)])(x:ItemL)(l:a.eval y=.agg x.cells)
  (h:wpList prog d Q b (a.put o.dst (.slice (some ⟨w.heap.size,0,none⟩) 1 1)) (w.alloc (.cells x.cells 32))):wpList prog d Q (o::b) a w:=by
 have m:Instr.fill (λi=>some (i*4,4)) ((Array.range (1*4)).map ((Value.agg #[.int .i64 0,.string ⟨#[]⟩,.int .i64 0,.int .i64 0]).cells[· % (Value.agg #[.int .i64 0,.string ⟨#[]⟩,.int .i64 0,.int .i64 0]).cells.size]!)) [(0,.agg x.cells)]=some x.cells:=by kernel_rfl
 obtain⟨i,n,e,c,p⟩:=info_parts rP;refine wpList_buildSlice j 24 32 1 _ k x.cells i _ underlying24 n e (by rw[c];decide) (by rw[c];decide) ?_ h
 rw[c];simp only[bgb,bgc,bge,l];exact m
theorem ItemsAt.one {w:World} {g:Nat} {y:ItemL}(h:lq w g y):ItemsAt w (some ⟨g,0,none⟩) [y]:=by
 refine .inr ⟨g,0,rfl,λi x a j v b=>?_⟩
 cases i with
 | zero=>
  simp only[bgp,bf5]at a;subst a;rw[cell_of_row _ _ _ _ _ _ h,Nat.zero_mul,bgu];exact b
 | succ i=>simp at a
theorem fM.open {w:World} {v:Value} {o:List dE}(h:fM w v o):∃a c l,v=.slice a l.length c/\l.length=o.length/\dZ w a l/\(∀x∈l,dL w x)/\o=l.map bH.o:=by
 obtain⟨a,c,l,d,_,e,j,b⟩:=h;exact⟨a,c,l,d,by rw[b,bfz],e,j,b⟩
theorem gG.open {w:World} {m:Int} {b:Value} {s:df}(h:gG w (.agg #[.int .i64 m,b]) s):m=s.mark/\∃a c l,b=.slice a l.length c/\dS w a l/\(∀x∈l,di w x)/\s.panes=l.map bn.p:=by
 obtain⟨d,e,j,k,n,o⟩:=h;have q:m=s.mark/\b=d:=by simpa using j
 obtain⟨rfl,rfl⟩:=q;obtain⟨a,c,rfl,_,h⟩:=k.form;exact⟨rfl,a,c,e,rfl,h,n,o⟩
end Go.Proofs.YtgfmbkoieacgoaaGreatDoor
set_option maxRecDepth 100000
set_option maxHeartbeats 1000000
namespace Go.Proofs.YtgfmbkoieacgoaaGreatDoor
open Go Go.RowKit Go.Proofs.Tryz
theorem P7(w:World)(la:Option Addr)(lc:Nat)(l:List bH)(hL:dZ w la l)(hG:∀x∈l,dL w x)(hl:l.length<=900000):
  Calls prog 15 #[.slice la l.length lc] w λe w'=>∃v,e=.returned v/\OwnI w' w.heap.size v (vk (l.map bH.o))/\Bw w w':=by
 have HI:=Lh (bfy hL (bfy hl hG));obtain⟨N,hN⟩:=Nm (l.length);rw[<-hN];have ae:N<=900000:=by omega
 have HN:=Lh hN;clear hL hl hN hG;go_enter func15,ntmps15;go_wp2_with fail;go_loopw[3,8] (λv u wr=>∃i:Nat,i<=N/\u=.int .i64 (i:Int)/\OwnI wr w.heap.size v (vk ((l.take i).map bH.o))/\Bw w wr) (λ_ u _=>N-(intOf u).toNat)
 case atStart=>exact⟨0,bgi _,rfl,OwnI.nil _ _,Br⟩
 case round=>
  obtain⟨i,hi,rfl,hO,hB⟩:=hrel;have R:=Lh (bfy hO hB);obtain⟨va,vc,ac,-⟩:=hO.form;obtain⟨m,hm⟩:=Nm ((vk ((l.take i).map bH.o)).length);rw[<-hm]at ac;clear hO;by_cases y:i<N
  ·have af:(0:Int)<=(i:Int)/\(i:Int)<N:=by omega
   have S:=Lh y;obtain⟨x,hx⟩:∃x,l[i]? =some x:=⟨_,bfs (by rw[<-HN.out];exact y)⟩
   obtain⟨b,o,rfl,hq⟩:∃b o,la=some ⟨b,o,none⟩/\∀j v,x.cells[j]? =some v->w.cell? ⟨b,o+i*10+j,none⟩=some v:=by
    rcases HI.out.1 with h | ⟨b,o,h1,h2⟩
    ·have:=HN.out;rw[h]at this;simp at this;omega
    exact⟨b,o,h1,h2 i x hx⟩
   have s:∀j v,x.cells[j]? =some v->wr.cell? ⟨b,o+i*10+j,none⟩=some v:=λj v h=>(hB.cell (p:=⟨b,o+i*10+j,none⟩) (block_lt_of_cell (hq j v h))).trans (hq j v h);have U:(l.take (i+1)).map bH.o=(l.take i).map bH.o++[x.o]:=by
    rw[List.take_add_one,hx];simp
   have a:=Me ((l.take i).map bH.o) x.o;rw[<-U]at a;have Y:(vk ((l.take i).map bH.o)).length<=i:=by
    refine bgn (by simp only[vk,bfz];exact List.length_filter_le _ _) ?_
    simp;omega
   have HX:=Lh (bfy a (bfy hm (bfy Y hB)));have Z:=Lh hx;clear hq U a hm Y hB hx;obtain⟨ta,tc,hv,-,-⟩:=HI.out.2.2 x (bf3 Z.out);obtain⟨vn,aa⟩:=Nm (x.o.v.length);rw[<-aa]at hv;clear aa;obtain⟨⟨d,⟨J,K,L,M⟩,⟨wk,wl,wh⟩,r,v⟩,tv,YC⟩:=x;have hv:tv=.slice ta vn tc:=hv;subst hv;have e0:wr.cell? ⟨b,o+i*10,none⟩=some (.bool d):=s 0 _ rfl;have e1:wr.cell? ⟨b,o+i*10+1,none⟩=some (.int .i64 J):=s 1 _ rfl;have e2:wr.cell? ⟨b,o+i*10+2,none⟩=some (Sv K):=s 2 _ rfl;have e3:wr.cell? ⟨b,o+i*10+3,none⟩=some (.int .i64 L):=s 3 _ rfl;have e4:wr.cell? ⟨b,o+i*10+4,none⟩=some (.int .i64 M):=s 4 _ rfl;have e5:wr.cell? ⟨b,o+i*10+5,none⟩=some (Sv wk):=s 5 _ rfl;have e6:wr.cell? ⟨b,o+i*10+6,none⟩=some (.int .i64 wl):=s 6 _ rfl;have e7:wr.cell? ⟨b,o+i*10+7,none⟩=some (.int .i64 wh):=s 7 _ rfl;have e8:wr.cell? ⟨b,o+i*10+8,none⟩=some (.int .i64 r):=s 8 _ rfl;have e9:wr.cell? ⟨b,o+i*10+9,none⟩=some (.slice ta vn tc):=s 9 _ rfl;clear s;simp only at HX;go_upto_region 5 with fail;obtain⟨q,D⟩:=Nm (wr.alloc (.cells #[.bool d,.int .i64 J,Sv K,.int .i64 L,.int .i64 M,Sv wk,.int .i64 wl,.int .i64 wh,.int .i64 r,.slice ta vn tc] 37));obtain⟨Q,O⟩:=Nm (wr.heap.size);have c:q.heap[Q]? =some (.cells #[.bool d,.int .i64 J,Sv K,.int .i64 L,.int .i64 M,Sv wk,.int .i64 wl,.int .i64 wh,.int .i64 r,.slice ta vn tc] 37 (0,0)):=by rw[D,O];exact bg5 wr _
   have E:Bw wr q:=by rw[D];exact(Below.refl _ wr).alloc (bfx _) _
   rw[<-D,<-O];have I:=Lh (bfy (R.out.1.far E) (bfy (R.out.2.trans (E.mono R.out.2.size)) E));clear D O E e0 e1 e2 e3 e4 e5 e6 e7 e8 e9 Z;have e0:q.cell? ⟨Q,0,none⟩=some (.bool d):=by rw[cell_of_row _ _ _ _ _ _ c];rfl
   have e1:q.cell? ⟨Q,1,none⟩=some (.int .i64 J):=by rw[cell_of_row _ _ _ _ _ _ c];rfl
   have e2:q.cell? ⟨Q,2,none⟩=some (Sv K):=by rw[cell_of_row _ _ _ _ _ _ c];rfl
   have e3:q.cell? ⟨Q,3,none⟩=some (.int .i64 L):=by rw[cell_of_row _ _ _ _ _ _ c];rfl
   have e4:q.cell? ⟨Q,4,none⟩=some (.int .i64 M):=by rw[cell_of_row _ _ _ _ _ _ c];rfl
   clear c
   cases d with
   | false=>
    go_wp2_with fail;have y:=S.out;have a:=HX.out.1;rw[if_neg (by decide),bg2]at a
    exact⟨⟨i+1,by omega,by go_num,by rw[a];exact I.out.1,I.out.2.1⟩,by simp[intOf];omega⟩
   | true=>
    go_upto_region 6 with fail;refine bg4 ?_
    iterate 9 go_step
    refine zC rfl _ rfl ⟨J,K,L,M⟩ rfl ?_;have F:Bw q (q.alloc (.cells (ItemL.mk J K L M).cells 32)):=(Below.refl _ q).alloc (bfx _) _;refine wpList_pushI rfl (.tmp 14) (.tmp 17) rfl w.heap.size _ (vk ((l.take i).map bH.o)) rfl (I.out.1.far F) ⟨J,K,L,M⟩ q.heap.size rfl (λj z hj=>by rw[cell_of_row _ _ _ _ _ _ (bg5 q _)];exact hj) (by have:=HX.out.2.2.1;omega) (by have:=I.out.2.1.size;simp;omega) ?_
    intro v' w5 eP n ad;have ab:Bw w w5:=(I.out.2.1.trans (F.mono I.out.2.1.size)).trans ⟨n.os,n.tape,n.output,n.size,λk hk=>n.block k (by have:=I.out.2.1.size;simp;omega) λe=>by have:=(I.out.1.far F).lt e.symm;omega⟩
    have a:=HX.out.1;rw[if_pos rfl]at a;rw[<-a]at eP;have H5:=Lh (bfy eP ab);clear eP n ad ab F a;dsimp only;go_wp2_with fail;have y:=S.out;exact⟨⟨i+1,by omega,by go_num,H5.out.1,H5.out.2⟩,by simp[intOf];omega⟩
  obtain rfl:i=N:=by omega
  go_wp2_with fail;go_ret;refine⟨_,rfl,?_,R.out.2⟩;have h:=R.out.1;rw[HN.out,bgs]at h;exact h
open Go Go.RowKit
theorem qE {q:bu}:∀(a b:List ItemL) (s:df) (o:List dE) (n:Int),dR q s o n (a++b)=dR q (dR q s o n a).s (dR q s o n a).outs (dR q s o n a).n b
 | [],_,_,_,_=>rfl
 | x::a,b,s,o,n=>by
  simp only[List.cons_append,dR]
  split
  ·exact qE a b _ _ _
  exact qE a b _ _ _
theorem qF {q:bu}:∀(l:List ItemL) (s:df) (o:List dE) (n:Int),(∃x,(dR q s o n l).outs=o++x)/\n<=(dR q s o n l).n/\(dR q s o n l).n<=n+(l.length:Int)
 | [],_,o,n=>⟨⟨[],by simp[dR]⟩,Int.le_refl _,by simp[dR]⟩
 | x::l,s,o,n=>by
  simp only[dR,bgy]
  split
  ·obtain⟨⟨y,a⟩,b,c⟩:=qF l (jo q s [x]).s (o++(jo q s [x]).outs) (n+1);exact⟨⟨(jo q s [x]).outs++y,by rw[a,bgz]⟩,by omega,by omega⟩
  obtain⟨a,b,c⟩:=qF l s o n;exact⟨a,b,by omega⟩
theorem tH {q:bu}:∀(l:List ItemL) (s:df) (o:List dE) (n:Int),dJ q s.panes 256->(∀x∈l,x.key.length<=1000000)->gU o->
  gU (dR q s o n l).outs/\(dR q s o n l).outs.length<=o.length+256*l.length
 | [],_,_,_,_,_,ho=>⟨ho,Nat.le_add_right _ _⟩
 | x::l,s,o,n,hs,hk,ho=>by
  simp only[dR,bgy]
  split
  ·obtain⟨d,e,h⟩:=BQ (its:=[x]) hs (λy a=>hk y (by simp at a;simp[a]))
   obtain⟨b,c⟩:=tH l (jo q s [x]).s (o++(jo q s [x]).outs) (n+1) h (λy a=>hk y (by simp[a])) (λy a=>(List.mem_append.1 a).elim (ho y) (d y))
   rw[bft]at c;simp only[bgy,List.length_nil]at e;exact⟨b,by omega⟩
  obtain⟨b,c⟩:=tH l s o n hs (λy a=>hk y (by simp[a])) ho
  exact⟨b,by omega⟩
theorem JP {q:bu}(l:List ItemL)(k:Nat)(j:k<=l.length):
  (dR q jK [] 0 (l.take k)).n<=(dR q jK [] 0 l).n/\(dR q jK [] 0 (l.take k)).n<=(k:Int)/\(dR q jK [] 0 l).n-(dR q jK [] 0 (l.take k)).n<=(l.length:Int)-k/\0<=(dR q jK [] 0 (l.take k)).n/\(dR q jK [] 0 l).n<=(l.length:Int)/\
   (dR q jK [] 0 (l.take k)).outs.length<=(dR q jK [] 0 l).outs.length/\(dR q jK [] 0 l).outs.take (dR q jK [] 0 (l.take k)).outs.length=(dR q jK [] 0 (l.take k)).outs:=by
 have e:dR q jK [] 0 l=dR q (dR q jK [] 0 (l.take k)).s (dR q jK [] 0 (l.take k)).outs (dR q jK [] 0 (l.take k)).n (l.drop k):=by
  rw[<-qE,List.take_append_drop]
 obtain⟨⟨y,a⟩,b,c⟩:=qF (q:=q) (l.drop k) (dR q jK [] 0 (l.take k)).s (dR q jK [] 0 (l.take k)).outs (dR q jK [] 0 (l.take k)).n;obtain⟨_,d,h⟩:=qF (q:=q) (l.take k) jK [] 0;rw[<-e]at a b c;rw[bgx]at c;rw[bga]at h;refine⟨b,by omega,by omega,d,by omega,by rw[a,bft];omega,by rw[a,List.take_left]⟩
end Go.Proofs.YtgfmbkoieacgoaaGreatDoor
