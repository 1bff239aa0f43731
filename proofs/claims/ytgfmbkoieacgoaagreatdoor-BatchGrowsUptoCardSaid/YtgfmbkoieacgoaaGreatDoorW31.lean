/- 31. -/
import Derived.Test.YtgfmbkoieacgoaaGreatDoorW27
import Derived.Test.YtgfmbkoieacgoaaGreatDoorW30
set_option maxRecDepth 100000
set_option maxHeartbeats 4000000
namespace Go.Proofs.YtgfmbkoieacgoaaGreatDoor
open Go Go.RowKit Go.Proofs.Tryz
theorem Pv {w:World} {a b:Nat} {c l:Array Value} {t k:TypeId} {m j:Nat × Nat}(h:w.heap[a]? =some (.cells c t m))(d:w.heap[b]? =some (.cells l k j))(n:t≠k):a≠b:=by
 rintro rfl;rw[h]at d;injection d with d
 injection d with _ e
 exact n e
structure PL(w:World)(B qb sb:Nat)(q:bu)(m:Int)(pv:Value)(l:List bn)(av:Value)(ol:List bH)(wr:World):Prop where
 rq:dB wr qb q
 rs:bZ wr sb m pv
 pn:cZ wr pv l
 gp:∀y∈l,di wr y
 ow:fU wr B av ol
 go:∀y∈ol,dL wr y
 bel:Bw w wr
 low:qb<B/\sb<B/\w.heap.size<=sb/\w.heap.size<=B/\B<=wr.heap.size
theorem PL.below {w wr w':World} {B c d:Nat} {q:bu} {m:Int} {e:Value} {l:List bn} {j:Value} {k:List bH}(h:PL w B c d q m e l j k wr)(a:Bw wr w'):PL w B c d q m e l j k w':=
 ⟨h.rq.below a,h.rs.below a,h.pn.below a,λy b=>(h.gp y b).below a,h.ow.far a,λy b=>(h.go y b).below a,h.bel.trans (a.mono h.bel.size),by have:=h.low;have:=a.size;omega⟩
structure NP(w:World)(B qb sb nb:Nat)(q:bu)(m:Int)(sa:Option Addr)(sn sc:Nat)(m':Int)(pv':Value)(l':List bn)(wr:World):Prop where
 rq:dB wr qb q
 rs:bZ wr sb m (.slice sa sn sc)
 rn:bZ wr nb m' pv'
 pn:cZ wr pv' l'
 gp:∀y∈l',di wr y
 bel:Bw w wr
 low:qb<B/\sb<B/\w.heap.size<=sb/\w.heap.size<=B/\B<=wr.heap.size/\B<=nb
theorem NP.NR {w wr w':World} {B d l n:Nat} {q:bu} {m:Int} {o:Option Addr} {p r:Nat} {m':Int} {pv':Value} {s:List bn} {j:Value} {J:List bH}(h:NP w B d l n q m o p r m' pv' s wr)(b:fU wr B j J)(a:wr.grownBy w' j.ownBlock):NP w B d l n q m o p r m' pv' s w':=by
 obtain⟨u,K,x,L,z,D,E⟩:=h;have c:∀k,k<B->some k≠j.ownBlock:=λk F e=>by have:=(b.lt e.symm).1;omega
 have M:some n≠j.ownBlock:=λe=>by
  obtain⟨O,N⟩:=xy b e.symm;exact Pv x N (by decide) rfl
 refine⟨(a.block d u.lt (c d E.1)).trans u,K.grown a (c l E.2.1),x.grown a M,L.NR b a,λy I=>⟨bC.NR (z y I).1 b a,(z y I).2⟩,D.trans ⟨a.os,a.tape,a.output,a.size,λk F=>a.block k (Nat.lt_of_lt_of_le F D.size) λe=>?_⟩,by have:=a.size;omega⟩
 have:=(b.lt e.symm).1;omega
theorem NP.WU {w wr:World} {B e c l:Nat} {q:bu} {m:Int} {r:Option Addr} {s u:Nat} {m':Int} {a:Option Addr} {d b:Nat} {n:List bn}(h:NP w B e c l q m r s u m' (.slice a d b) n wr)(I:e<c):NP w B e c l q m' a d b m' (.slice a d b) n (wr.setRow c #[.int .i64 m',.slice a d b]):=by
 obtain⟨o,k,x,z,D,E,p⟩:=h;have j:=bD wr c #[.int .i64 m',.slice a d b];refine⟨(j.block e o.lt (by simp;omega)).trans o,setRow_heap wr c _ _ _ _ k,x.grown j (by simp;omega),z.store k j,λy F=>(D y F).lT k j,below_setRow E p.2.2.1 _,by simpa[World.setRow]using p⟩
theorem PL.WU {w wr w':World} {B n r c:Nat} {q:bu} {m m':Int} {s:Value} {l:List bn} {b:Value} {u:List bH}(h:PL w B n r q m s l b u wr)(d:bZ wr c m' bM)(a:wr.grownBy w' (some c))(N:B<=c):PL w B n r q m s l b u w':=by
 obtain⟨x,F,I,J,z,D,E,O⟩:=h;have o:b.ownBlock=none∨b.ownBlock≠some c:=by
  cases e:b.ownBlock with
  | none=>exact .inl rfl
  | some k=>
   right
   intro K;cases K
   obtain⟨Q,L⟩:=xy z e;exact Pv d L (by decide) rfl
 exact⟨(a.block n x.lt (by simp;omega)).trans x,F.grown a (by simp;omega),I.grown a (λk p=>by cases p;exact⟨_,_,_,d,by decide⟩),λy j=>(J y j).lT d a,z.kept a o,λy j=>bC.grown (D y j) a (λ_ _ _ e M=>bC.apart (D y j) e M d (by decide)),
  E.trans ⟨a.os,a.tape,a.output,a.size,λk p=>a.block k (Nat.lt_of_lt_of_le p E.size) (by simp;omega)⟩,by have:=a.size;omega⟩
theorem jL(w:World):Bw w w.drew:=⟨rfl,rfl,rfl,bfx _,λ_ _=>rfl⟩
theorem NP.drew {w wr:World} {B a b c:Nat} {q:bu} {m:Int} {d:Option Addr} {e j:Nat} {m':Int} {pv':Value} {k:List bn}(h:NP w B a b c q m d e j m' pv' k wr):NP w B a b c q m d e j m' pv' k wr.drew:=
 ⟨h.rq.below (jL wr),h.rs.below (jL wr),h.rn.below (jL wr),h.pn.below (jL wr),λy l=>(h.gp y l).below (jL wr),h.bel.trans ((jL wr).mono h.bel.size),h.low⟩
def Xb(w:World)(B qb sb:Nat)(q:bu)(m:Int)(sa:Option Addr)(sc:Nat)(l:List bn)(av:Value)(ol:List bH)(R:kK)(s10 s11 s12:Value)(wx:World):Prop:=
 ∃nb sa' sc' l',s10=.pointer (some ⟨nb,0,none⟩)/\s12=.int .i64 R.n/\PL w B qb sb q m (.slice sa l.length sc) l av ol wx/\NP w B qb sb nb q m sa l.length sc R.s.mark (.slice sa' l'.length sc') l' wx/\fM wx s11 R.outs/\R.s.panes=l'.map bn.p
def Xc(w:World)(B qb sb:Nat)(q:bu)(its:List ItemL)(r0:kK)(s6 s8 s9:Value)(wr:World):Prop:=
 ∃(i:Nat) (nn:Int) (m:Int) (pv:Value) (l:List bn) (ol:List bH),i<=its.length+1/\s9=.int .i64 (i:Int)/\s8=.int .i64 nn/\(0<=nn/\nn<=i)/\r0=dR q ⟨m,l.map bn.p⟩ (ol.map bH.o) nn (its.drop i)/\dJ q (l.map bn.p) 256/\ol.length<=256*i/\PL w B qb sb q m pv l s6 ol wr
def zK(w:World)(r:kK)(e:Ending)(w':World):Prop:=∃ov,e=.returned (.tuple #[ov,.int .i64 r.n])/\fM w' ov r.outs/\Bw w w'
theorem x9(w:World)(q:bu)(ia:Option Addr)(ic:Nat)(its:List ItemL)(hI:ItemsAt w ia its)(hk:∀x∈its,x.key.length<=1000000)(hn:its.length<=3000)(hc:its.length<=ic)(h0:ia=none->ic=0):
  Calls prog 9 #[.agg q.cells,.slice ia its.length ic] w (zK w (dR q jK [] 0 its)):=by
 obtain⟨P,hP⟩:=Nm (zK w (dR q jK [] 0 its));rw[<-hP];obtain⟨r0,az⟩:=Nm (dR q jK [] 0 its);rw[<-az]at hP;obtain⟨N,hN⟩:=Nm (its.length);rw[<-hN];have a6:N<=3000:=by omega
 obtain⟨w1,ar⟩:=Nm (w.alloc (.cells q.cells 23));obtain⟨O,XW⟩:=Nm (w.heap.size);have H1:Hid (dB w1 O q/\Bw w w1):=by
  rw[ar,XW];exact Lh (Hl w q)
 have I:=Lh (bfy ar (bfy XW (bfy hI (bfy hk (bfy hN (bfy hc (bfy h0 (bfy az hP))))))));obtain⟨Q,hQ⟩:=Nm q;have Yy:Hid (∀w',dB w' O q->D6 w' O q.kind q.size q.slide q.late q.agg q.k):=Lh (λw' h=>h.d6);have a7:Hid (q.cells=#[.int .i64 q.kind,.int .i64 q.size,.int .i64 q.slide,.int .i64 q.late,.int .i64 q.agg,.int .i64 q.k]):=Lh rfl;clear ar XW hI hk hN hc h0 az hP hn hQ;have ak:=JL w1;unfold bM at ak;show Calls prog 9 #[.agg #[.int .i64 q.kind,.int .i64 q.size,.int .i64 q.slide,.int .i64 q.late,.int .i64 q.agg,.int .i64 q.k],.slice ia N ic] w P;have Zn:w1=w.alloc (.cells #[.int .i64 q.kind,.int .i64 q.size,.int .i64 q.slide,.int .i64 q.late,.int .i64 q.agg,.int .i64 q.k] 23):=I.out.1;go_enter func9,ntmps9;go_upto_region 2 with fail;rw[<-Zn,<-I.out.2.1];clear Zn;go_wp2_with fail;refine ak.mono ?_;clear ak;rintro e w2 ⟨rfl,aA⟩;have H2:=Lh (bfy (H1.out.1.below aA) (H1.out.2.trans (aA.mono H1.out.2.size)));clear aA;dsimp only;go_upto_region 3 with fail;obtain⟨w3,af⟩:=Nm (w2.alloc (.cells #[.int .i64 (-1),.slice none 0 0] 72));obtain⟨M,aB⟩:=Nm (w2.heap.size);have aJ:w3.heap.size=w2.heap.size+1:=by rw[af];exact bg w2 _
 have aC:Bw w2 w3:=by rw[af];exact(Below.refl _ w2).alloc (bfx _) _
 have aK:bZ w3 M (-1) bM:=by rw[af,aB];exact bg5 w2 _
 have oW:PL w w3.heap.size O M q (-1) bM [] bM [] w3:=by
  have h1:=H2.out.1.lt;have h2:=H2.out.2.size;exact⟨H2.out.1.below aC,aK,⟨none,0,rfl,bfx _,.inl ⟨rfl,rfl⟩⟩,λ_ h=>by simp at h,fU.nil _ _,λ_ h=>by simp at h,H2.out.2.trans (aC.mono H2.out.2.size),by omega,by omega,by omega,by omega,bfx _⟩
 obtain⟨B,EL⟩:=Nm (w3.heap.size);rw[<-EL]at oW;rw[<-af,<-aB];have H3:=Lh oW;have aV:Hid (O<M):=Lh (by have h1:=H2.out.1.lt;omega)
 clear af aB aJ aC aK oW EL;go_wp2_with fail;go_loopw[6,8,9] (λs6 s8 s9 wr=>Xc w B O M q its r0 s6 s8 s9 wr) (λ_ _ s9 _=>N+1-(intOf s9).toNat)
 case atStart=>exact⟨0,0,-1,bM,[],[],bgi _,rfl,rfl,by omega,by rw[I.out.2.2.2.2.2.2.2.1];rfl,zH q,bgi _,H3.out⟩
 case round=>
  obtain⟨i,nn,m,pv,l,U,hi,rfl,rfl,ag,hr,al,Y,hX⟩:=hrel;have a8:i<=N+1:=by rw[I.out.2.2.2.2.1];exact hi
  obtain⟨aa,ac,rfl,-⟩:=hX.ow.form;have HX:=Lh hX;by_cases au:i<N
  ·have a9:(0:Int)<=(i:Int)/\(i:Int)<N:=by omega
   have aD:=Lh au;obtain⟨a5,c5,ba,uQ⟩:=L9 I.out.2.2.1 N ic i I.out.2.2.2.2.1 (by omega) (by rw[I.out.2.2.2.2.1];exact I.out.2.2.2.2.2.1) I.out.2.2.2.2.2.2.1
   have J:=QT (q:=q) (its.drop i) ⟨m,l.map bn.p⟩ (U.map bH.o) nn (λx hx=>I.out.2.2.2.1 x (List.mem_of_mem_drop hx));have ae:=BQ (q:=q) (s:=⟨m,l.map bn.p⟩) (its:=its.drop i) al (λx hx=>I.out.2.2.2.1 x (List.mem_of_mem_drop hx));have aL:(its.drop i).length=N-i:=by rw[bgx,I.out.2.2.2.2.1]
   rw[<-hr]at J;have F:=λ(w':World) (hB:Bw wr w')=>JO w' q m pv l a5 c5 (its.drop i) (hX.below hB).pn (hX.below hB).gp (F5 (s:=⟨m,l.map bn.p⟩) al rfl) ((uQ.below hX.bel).below hB) (λx hx=>I.out.2.2.2.1 x (List.mem_of_mem_drop hx)) (by omega)
   obtain⟨R,hR⟩:=Nm (jo q ⟨m,l.map bn.p⟩ (its.drop i));have aE:=Na (q:=q) (s:=⟨m,l.map bn.p⟩) (l:=its.drop i) al (λx hx=>I.out.2.2.2.1 x (List.mem_of_mem_drop hx));rw[<-hR]at J ae F aE;have aW:=Lh aE;clear aE;rw[aL]at J ae F;obtain⟨sa,sc,rfl,-⟩:=hX.pn;have bb:=hX.rs;have Z:=Lh (bfy F (bfy J (bfy ae (bfy ag (bfy Y hX)))));clear F J ae hR uQ aL hr al Y hX ag hi;go_upto_region 6 with fail;go_cut[10,11,12,14]from 10 to 31 (λaX s11 aF aG wx=>aG=.agg #[.int .i64 (-1),.slice none 0 0]/\Xb w B O M q m sa sc l (.slice aa U.length ac) U R aX s11 aF wx)
   case first=>
    refine wp_region_held_drew (S:=λw'=>dB w' O q/\bZ w' M m (.slice sa l.length sc)) (by kernel_rfl) ⟨(Z.out.2.2.2.2.2.below ⟨rfl,rfl,rfl,bfx _,λ_ _=>rfl⟩ (w':=wr.drew)).rq,(Z.out.2.2.2.2.2.below ⟨rfl,rfl,rfl,bfx _,λ_ _=>rfl⟩ (w':=wr.drew)).rs⟩ (λb=>?_)
    refine tkFree (i:=0) rfl (by decide+kernel) (by decide+kernel) (by decide+kernel) (λ_ _ _ h=>h) (.inl ⟨by rfl,λw am=>by(obtain⟨d0,d1,d2,d3,d4,d5⟩:=Yy.out w am.1);go_simp;rfl⟩) b ?_
    try simp only[Act.put,bfw,bfv,bfu]
    refine tkFree (i:=1) rfl (by decide+kernel) (by decide+kernel) (by decide+kernel) (λ_ _ _ h=>h) (.inl ⟨by rfl,λw am=>by(obtain⟨d0,d1⟩:=am.2.d2);go_simp;rfl⟩) b ?_
    try simp only[Act.put,bfw,bfv,bfu]
    refine tkF 2 b ?_
    try simp only[Act.put,bfw,bfv,bfu]
    refine tkF 3 b ?_
    try simp only[Act.put,bfw,bfv,bfu]
    refine tkF 4 b ?_
    try simp only[Act.put,bfw,bfv,bfu]
    have ah:Bw wr wr.drew:=⟨rfl,rfl,rfl,bfx _,λ_ _=>rfl⟩;have aM:=Lh ah;clear ah;refine tkTwo 5 11 rfl rfl (by decide+kernel) rfl rfl (λK z=>?_) (λK z=>?_)
    ·go_simp;refine(Z.out.1 _ aM.out).mono ?_;rintro e w5 ⟨sv,ov,rfl,aH,eP,ai⟩;have YF:=(Z.out.2.2.2.2.2.below aM.out).below ai;refine z _ _ ⟨YF.rq,YF.rs⟩ ?_;obtain⟨aY,u,rfl,ab,iK,L⟩:=aH;have b:=bfy YF.rq YF.rs;obtain⟨d,j,rfl,-⟩:=id ab;have H5:=Lh (bfy YF (bfy ab (bfy iK (bfy L eP))));clear z YF ab iK L eP ai
     try simp only[Act.put]
     refine tkF 6 b ?_
     try simp only[Act.put]
     refine tkF 7 b ?_
     try simp only[Act.put,bfw,bfv,bfu]
     refine tkF 8 b ?_
     try simp only[Act.put,bfw,bfv,bfu]
     refine tkF 9 b ?_
     try simp only[Act.put,bfw,bfv,bfu]
     refine tkF 10 b ?_
     try simp only[Act.put,bfw,bfv,bfu]
     refine tkOne 11 rfl (by decide+kernel) rfl (λK z=>?_)
     go_simp;obtain⟨w6,av⟩:=Nm (w5.alloc (.cells #[.int .i64 0,.slice none 0 0] 72));obtain⟨D,ad⟩:=Nm (w5.heap.size);have an:Bw w5 w6:=by rw[av];exact(Below.refl _ w5).alloc (bfx _) _
     have ET:bZ w6 D 0 bM:=by rw[av,ad];exact bg5 w5 _
     have Ad:=H5.out.1.below an;rw[<-av,<-ad];refine z _ _ ⟨Ad.rq,Ad.rs⟩ ?_;have b:=bfy Ad.rq Ad.rs;have r:=Lh (bfy Ad (bfy ET (bfy (show B<=D by have:=H5.out.1.low;omega) (bfy (H5.out.2.1.below an) (bfy (λy hy=>(H5.out.2.2.1 y hy).below an) (bfy H5.out.2.2.2.1 (H5.out.2.2.2.2.below an)))))))
     clear z av ad an ET Ad H5
     try simp only[Act.put,bfw,bfv,bfu]
     refine tkOne 12 rfl (by decide+kernel) rfl (λK z=>?_)
     refine wp_store_row _ (.tmp 10) (.tmp 28) rfl D #[.int .i64 R.s.mark,.slice d u.length j] rfl rfl 72 #[.int .i64 0,bM] r.out.2.1 bP rfl (dF rfl) ?_;have Yx:=bD w6 D #[.int .i64 R.s.mark,.slice d u.length j];have ao:=r.out.2.2.1;have E:PL w B O M q m (.slice sa l.length sc) l (.slice aa U.length ac) U (w6.setRow D #[.int .i64 R.s.mark,.slice d u.length j]):=r.out.1.WU r.out.2.1 Yx ao;have ap:=fM.store r.out.2.2.2.2.2.2 r.out.2.1 Yx;have EO:NP w B O M D q m sa l.length sc R.s.mark (.slice d u.length j) u (w6.setRow D #[.int .i64 R.s.mark,.slice d u.length j]):=⟨E.rq,E.rs,setRow_heap w6 D _ _ _ _ r.out.2.1,r.out.2.2.2.1.store r.out.2.1 Yx,λy hy=>(r.out.2.2.2.2.1 y hy).lT r.out.2.1 Yx,E.bel,by have:=E.low;omega⟩
     refine z _ _ ⟨E.rq,E.rs⟩ ?_;have HF:=Lh (bfy E (bfy EO (bfy ap r.out.2.2.2.2.2.1)));clear b;have b:=bfy E.rq E.rs;clear Yx ao E ap EO z r
     try simp only[Act.put]
     refine tkF 13 b ?_
     try simp only[Act.put,bfw,bfv,bfu]
     refine tkF 14 b ?_
     try simp only[Act.put,bfw,bfv,bfu]
     refine tkF 15 b ?_
     try simp only[Act.put,bfw,bfv,bfu]
     clear b;refine wpAnyH_done (by decide+kernel) ?_ _
     go_wp2_with fail;go_meet;exact⟨rfl,D,d,j,u,rfl,rfl,HF.out.1,HF.out.2.1,HF.out.2.2.1,HF.out.2.2.2⟩
    go_simp;obtain⟨w4,aw⟩:=Nm ((wr.alloc (.cells #[.int .i64 0,.slice none 0 0] 72)).drew);obtain⟨D,ad⟩:=Nm (wr.heap.size);have aI:Bw wr w4:=by rw[aw];exact(((Below.refl _ wr).alloc (bfx _) _).drew)
    have aN:bZ w4 D 0 bM:=by rw[aw,ad];exact bg5 wr _
    have YM:=Z.out.2.2.2.2.2.below aI;rw[<-aw,<-ad];refine z _ _ ⟨YM.rq,YM.rs⟩ ?_;have b:=bfy YM.rq YM.rs;have H4:=Lh (bfy aI (bfy aN (bfy YM (show B<=D by have:=Z.out.2.2.2.2.2.low;omega))))
    clear z aw ad aI aN YM
    try simp only[Act.put]
    refine tkOne 5 rfl (by decide+kernel) rfl (λK z=>?_)
    go_simp;refine(Z.out.1 _ H4.out.1).mono ?_;rintro e w6 ⟨sv,ov,rfl,aH,eP,ai⟩;have YF:=H4.out.2.2.1.below ai;refine z _ _ ⟨YF.rq,YF.rs⟩ ?_;obtain⟨aY,u,rfl,ab,iK,L⟩:=aH;have b:=bfy YF.rq YF.rs;obtain⟨d,j,rfl,-⟩:=id ab;have r:=Lh (bfy YF (bfy (H4.out.2.1.below ai) (bfy H4.out.2.2.2 (bfy ab (bfy iK (bfy L eP))))));clear z YF ab iK L eP ai H4
    try simp only[Act.put]
    refine tkF 6 b ?_
    try simp only[Act.put]
    refine tkF 7 b ?_
    try simp only[Act.put,bfw,bfv,bfu]
    refine tkF 8 b ?_
    try simp only[Act.put,bfw,bfv,bfu]
    refine tkF 9 b ?_
    try simp only[Act.put,bfw,bfv,bfu]
    refine tkF 10 b ?_
    try simp only[Act.put,bfw,bfv,bfu]
    refine tkOne 12 rfl (by decide+kernel) rfl (λK z=>?_)
    refine wp_store_row _ (.tmp 10) (.tmp 28) rfl D #[.int .i64 R.s.mark,.slice d u.length j] rfl rfl 72 #[.int .i64 0,bM] r.out.2.1 bP rfl (dF rfl) ?_;have Yx:=bD w6 D #[.int .i64 R.s.mark,.slice d u.length j];have ao:=r.out.2.2.1;have E:PL w B O M q m (.slice sa l.length sc) l (.slice aa U.length ac) U (w6.setRow D #[.int .i64 R.s.mark,.slice d u.length j]):=r.out.1.WU r.out.2.1 Yx ao;have ap:=fM.store r.out.2.2.2.2.2.2 r.out.2.1 Yx;have EO:NP w B O M D q m sa l.length sc R.s.mark (.slice d u.length j) u (w6.setRow D #[.int .i64 R.s.mark,.slice d u.length j]):=⟨E.rq,E.rs,setRow_heap w6 D _ _ _ _ r.out.2.1,r.out.2.2.2.1.store r.out.2.1 Yx,λy hy=>(r.out.2.2.2.2.1 y hy).lT r.out.2.1 Yx,E.bel,by have:=E.low;omega⟩
    refine z _ _ ⟨E.rq,E.rs⟩ ?_;have HF:=Lh (bfy E (bfy EO (bfy ap r.out.2.2.2.2.2.1)));clear b;have b:=bfy E.rq E.rs;clear Yx ao E ap EO z r
    try simp only[Act.put]
    refine tkF 13 b ?_
    try simp only[Act.put,bfw,bfv,bfu]
    refine tkF 14 b ?_
    try simp only[Act.put,bfw,bfv,bfu]
    refine tkF 15 b ?_
    try simp only[Act.put,bfw,bfv,bfu]
    clear b;refine wpAnyH_done (by decide+kernel) ?_ _
    go_wp2_with fail;go_meet;exact⟨rfl,D,d,j,u,rfl,rfl,HF.out.1,HF.out.2.1,HF.out.2.2.1,HF.out.2.2.2⟩
   case rest=>
    obtain⟨rfl,D,d,j,u,rfl,rfl,aO,aP,uT,L⟩:=hcut;have HM:=Lh (bfy aO (bfy aP (bfy uT L)));obtain⟨bc,bd,aZ,rfl,-,-,-,-⟩:=id uT;clear aO aP uT L;go_upto_region 7 with fail;go_cut[6,7,8,9,12,14]from 6 to 35 (λs6 s7 s8 s9 aF aG wx=>aG=.agg #[.int .i64 (-1),.slice none 0 0]/\s7=.pointer (some ⟨M,0,none⟩)/\s8=.int .i64 nn/\s9=.int .i64 (i:Int)/\aF=.int .i64 R.n/\∃Yo:List bH,R.outs=Yo.map bH.o/\PL w B O M q R.s.mark (.slice d u.length j) u s6 (U++Yo) wx)
    case first=>
     have ax:=(NP.drew HM.out.2.1).rn;refine wp_region_held_drew (S:=λw'=>bZ w' D R.s.mark (.slice d u.length j)) (by kernel_rfl) ax (λb=>?_)
     refine tkFree (i:=0) rfl (by decide+kernel) (by decide+kernel) (by decide+kernel) (λ_ _ _ h=>h) (.inl ⟨by rfl,λw am=>by(obtain⟨d0,d1⟩:=am.d2);go_simp;rfl⟩) b ?_
     try simp only[Act.put,bfw,bfv,bfu]
     refine tkF 1 b ?_
     try simp only[Act.put,bfw,bfv,bfu]
     refine tkF 2 b ?_
     try simp only[Act.put,bfw,bfv,bfu]
     have ah:=jL wc;have HD:=Lh (bfy (NP.drew HM.out.2.1) (bfy (HM.out.1.below ah) (HM.out.2.2.1.below ah)));have Af:O<M:=aV.out;have ay:=Z.out.2.2.1.2.1;have Y:=Z.out.2.2.2.2.1;have HN:=Lh (bfy ay (bfy Y (bfy Af aD.out)));clear ah ax Af ay Y;refine tkOne 3 rfl (by decide+kernel) rfl (λK z=>?_)
     obtain⟨Zy,be,Yo,a0,-,aR,aS,aj⟩:=HD.out.2.2;injection a0 with he1 he2 he3
     subst he1;have a1:Yo.length<=256*(N-i):=by
      have h1:=HN.out.1;rw[aj,bfz]at h1;exact h1
     have a2:U.length<=256*i:=HN.out.2.1;have a3:=HN.out.2.2.2;refine CB (.tmp 33) (.tmp 34) rfl B _ U Yo rfl HD.out.2.1.ow _ _ aZ.length he2 rfl aR (by omega) HD.out.1.low.2.2.2.2.1 ?_
     intro v' w8 uU aQ UK;have IP:=HD.out.1.NR HD.out.2.1.ow aQ;have EM:∀y∈U++Yo,dL w8 y:=λy hy=>by
      rcases List.mem_append.1 hy with hy | hy
      ·exact bC.NR (HD.out.2.1.go y hy) HD.out.2.1.ow aQ
      exact bC.NR (aS y hy) HD.out.2.1.ow aQ
     refine z _ _ IP.rn ?_;have b:=IP.rn;obtain⟨va,vc,rfl,-⟩:=id uU.form;have H8:=Lh (bfy IP (bfy uU (bfy EM aj)));clear z IP uU EM aQ UK aR aS aj a1 a2 a3
     try simp only[Act.put]
     refine tkOne 4 rfl (by decide+kernel) rfl (λK z=>?_)
     refine wp_store_row _ (.tmp 7) (.tmp 32) rfl M #[.int .i64 R.s.mark,.slice d u.length j] rfl rfl 72 _ H8.out.1.rs bP rfl (dF rfl) ?_;have eH:=H8.out.1.WU HN.out.2.2.1;have iL:=qG H8.out.1.low.2.1 H8.out.1.rs (bD w8 M #[.int .i64 R.s.mark,.slice d u.length j]) ⟨H8.out.2.1,H8.out.2.2.1⟩;refine z _ _ eH.rn ?_;have b:=eH.rn;have H9:=Lh (bfy H8.out.2.2.2 (show PL w B O M q R.s.mark (.slice d u.length j) u _ (U++Yo) _ from⟨eH.rq,eH.rs,eH.pn,eH.gp,iL.1,iL.2,eH.bel,by have:=eH.low;omega⟩))
     clear z eH iL
     try simp only[Act.put]
     refine tkF 5 b ?_
     try simp only[Act.put,bfw,bfv,bfu]
     clear b;refine wpAnyH_done (by decide+kernel) ?_ _
     go_wp2_with fail;go_meet;exact⟨rfl,rfl,rfl,rfl,rfl,Yo,H9.out.1,by simpa only[bft]using H9.out.2⟩
    case rest=>
     obtain⟨rfl,rfl,rfl,rfl,rfl,Yo,aj,aT⟩:=hcut;have ag:=Z.out.2.2.2.1;have ax:=Z.out.2.1;have au:=aD.out;have ar:IntKind.i64.wrap (nn+R.n)=nn+R.n:=IntWalk.i64_in _ (by omega)
     have bh:IntKind.i64.wrap ((i:Int)+R.n)=(i:Int)+R.n:=IntWalk.i64_in _ (by omega)
     have af:IntKind.i64.wrap ((i:Int)+R.n+1)=(i:Int)+R.n+1:=IntWalk.i64_in _ (by omega)
     have H9:=Lh aT;clear aT ag ax au;go_wp2_with fail;have au:=aD.out;have Ii:=Z.out.2.1;have ag:=Z.out.2.2.2.1;have Y:=Z.out.2.2.2.2.1;have a4:=Z.out.2.2.1;have bi:=I.out.2.2.2.2.1;have bj:Yo.length<=256*R.n.toNat:=by
      have h1:=aW.out;rw[aj,bfz]at h1;exact h1
     refine⟨?_,?_⟩;refine⟨i+R.n.toNat+1,nn+R.n,R.s.mark,.slice d u.length j,u,U++Yo,by omega,by(congr 1;omega),rfl,by omega,?_,?_,?_,H9.out⟩
     ·have h1:=Ii.2.2;rw[List.drop_drop,show i+(R.n.toNat+1)=i+R.n.toNat+1 by omega]at h1
      rw[bgl,<-aj,h1]
      congr 1
      rw[<-HM.out.2.2.2]
     ·rw[<-HM.out.2.2.2];exact a4.2.2
     ·rw[bft];omega
     simp[intOf];omega
  have bk:¬(i:Int)<(N:Int):=by omega
  have hd:its.drop i=[]:=List.drop_eq_nil_of_le (by rw[<-I.out.2.2.2.2.1];omega)
  rw[hd]at hr;have aU:r0=⟨⟨m,l.map bn.p⟩,U.map bH.o,nn,0⟩:=hr;have HR:=Lh aU;clear hr aU hd al Y hX ag hi;go_wp2_with fail;rw[I.out.2.2.2.2.2.2.2.2,HR.out];obtain⟨a,c,e,hc,hA⟩:=HX.out.ow.form;exact⟨_,rfl,⟨a,c,U,e,hc,hA,HX.out.go,rfl⟩,HX.out.bel⟩
end Go.Proofs.YtgfmbkoieacgoaaGreatDoor
