/-
  36.
-/
import Derived.Test.YtjeeghafachebaaGreatU31
set_option maxRecDepth 100000
set_option maxHeartbeats 4000000
namespace Go.Proofs.YtjeeghafachebaaGreat
open Go Go.RowKit Go.Proofs.Tryz
def Qs(w:World)(ws:List bg)(t:bg)(e:Ending)(w':World):Prop:=∃(p:Nat) (b:Bool),e=.returned (.tuple #[.int .i64 (p:Int),.bool b])/\ky ws t p/\(b=true↔p<ws.length/\pX ws p=t)/\Bw w w'
theorem QO(w:World)(x:bn)(t:bg):
  cz ((w.alloc (.cells x.cells 55)).alloc (.cells t.cells 47)) w.heap.size x/\bZ ((w.alloc (.cells x.cells 55)).alloc (.cells t.cells 47)) (w.heap.size+1) t/\Bw w ((w.alloc (.cells x.cells 55)).alloc (.cells t.cells 47)):=by
 have k1:=(Below.refl _ w).alloc (bfx _) (.cells x.cells 55);have k2:=(Below.refl _ (w.alloc (.cells x.cells 55))).alloc (bfx _) (.cells t.cells 47);have hs:(w.alloc (.cells x.cells 55)).heap.size=w.heap.size+1:=bq w _;refine⟨cz.below (bg5 w _) k2,?_,Tb k1 k2⟩;rw[<-hs];exact bg5 _ _
theorem Bn(w:World)(x:bn)(t:bg):Calls prog 98 #[.agg x.cells,.agg t.cells] w (bE w (.int .i64 (gG x.p.w t))):=by
 obtain⟨r,hr⟩:=Nm (gG x.p.w t);rw[<-hr];obtain⟨w1,hw1⟩:=Nm ((w.alloc (.cells x.cells 55)).alloc (.cells t.cells 47));obtain⟨xb,hxb⟩:=Nm (w.heap.size);obtain⟨tb,htb⟩:=Nm (w.heap.size+1);have H1:Hid (cz w1 xb x/\bZ w1 tb t/\Bw w w1):=by rw[hw1,hxb,htb];exact Lh (QO w x t)
 have HC:Hid (Calls prog 54 #[.agg x.p.w.cells,.agg t.cells] w1 (bE w1 (.int .i64 r))):=by
  rw[hr];exact Lh (nR w1 x.p.w t)
 have HB1:=Lh H1.out.2.2;have hs1:(w.alloc (.cells x.cells 55)).heap.size=w.heap.size+1:=bq w _;clear hr;obtain⟨⟨⟨xk,xl,xh⟩,⟨xn,xa,xt,xu,xv⟩,xr⟩,Su,xz,Sw,Sz⟩:=x;obtain⟨tk,tl,th⟩:=t;obtain⟨e0,e1,e2,_⟩:=H1.out.1.d8;obtain⟨f0,f1,f2⟩:=H1.out.2.1.d3;unfold bn.cells at hw1 hs1 ⊢;unfold bg.cells at hw1 HC ⊢;simp only at hw1 hs1 HC e0 e1 e2 f0 f1 f2;clear H1;go_enter func98,ntmps98;go_upto_region 1 with(fail);rw[<-hw1,<-htb,<-hxb];clear hw1 htb hxb hs1;go_wp2_with(fail);refine HC.out.mono ?_;rintro e w2 ⟨rfl,hB⟩;have HZ:=Lh (Tb HB1.out hB);clear hB e0 e1 e2 f0 f1 f2;dsimp only;go_wp2_with(fail);go_ret;exact⟨rfl,HZ.out⟩
theorem D9(w:World)(sa:Option Addr)(sc:Nat)(l:List bn)(t:bg)(hA:dI w sa l)(hs:(l.map λx=>x.p.w).Pairwise bJ)(hn:l.length<=1000000):
  Calls prog 97 #[.slice sa l.length sc,.agg t.cells,.func (.func 98) #[] #[]] w (Qs w (l.map λx=>x.p.w) t):=by
 obtain⟨n,hN0⟩:=Nm (l.length);obtain⟨ws,hws⟩:=Nm (l.map λx=>x.p.w);rw[<-hws]at hs ⊢;have VD:Hid (n=l.length):=Lh hN0;clear hN0;have HW:Hid (∀(i:Nat) (x:bn),l[i]? =some x->ws[i]? =some x.p.w):=Lh (λi x h=>by rw[hws,bgf,h];rfl)
 have hN:n=ws.length:=by rw[hws,bfz,VD.out]
 obtain⟨P,hP⟩:=Nm (Qs w ws t);rw[<-hP,<-VD.out];have Tx:n<=1000000:=by have:=VD.out;omega
 have HN:Hid (n=ws.length/\n<=1000000):=Lh ⟨hN,Tx⟩;have HA:=Lh hA;have Sl:Hid (∀wz (p:Nat) b,ky ws t p->(b=true↔p<ws.length/\pX ws p=t)->Bw w wz->P (.returned (.tuple #[.int .i64 (p:Int),.bool b])) wz):=Lh (λwz p b h h' hB=>by
  rw[hP];exact⟨p,b,rfl,h,h',hB⟩)
 have HM:Hid (∀i j,i<=j->j<n->bJ (pX ws j) t->bJ (pX ws i) t):=by
  refine Lh (λi j hij hj h=>?_);rw[hN]at hj;rcases bg1 i j with h' | h'
  ·have:=List.pairwise_iff_getElem.1 hs i j (by omega) hj h'
   rw[fF (bfs hj)]at h;rw[fF (bfs (show i<ws.length by omega))]
   exact this.trans h
  obtain rfl:i=j:=by omega
  exact h
 obtain⟨w1,hw1⟩:=Nm (w.alloc (.cells t.cells 47));obtain⟨tb,htb⟩:=Nm (w.heap.size);have H1:Hid (bZ w1 tb t/\Bw w w1):=by
  rw[hw1,htb];exact Lh ⟨bg5 w _,(Below.refl _ w).alloc (bfx _) _⟩
 obtain⟨T,hT⟩:=Nm t;have HT:=Lh hT;rw[<-hT]at H1 Sl HM;obtain⟨tk,tl,th⟩:=t;unfold bg.cells at hw1 ⊢;simp only at hw1 ⊢;clear hN hA hn hP hs hT hws;go_enter func97,ntmps97;go_upto_region 1 with(fail);rw[<-hw1,<-htb];clear hw1 htb;go_wp2_with(fail);go_loopw[9,10] (La w1 ws T) (λa b _=>PY a b)
 case atStart=>exact⟨0,n,rfl,rfl,bgi _,by rw[HN.out.1];exact bfx _,λi h=>absurd h (Nat.not_lt_zero _),λi h1 h2=>by have:=HN.out.1;omega,Br⟩
 case round=>
  obtain⟨lo,hi,rfl,rfl,hlh,hhn,h1,h2,hB⟩:=hrel;rw[<-HN.out.1]at hhn h2;have HB:=Lh (bfy h1 (bfy h2 (bfy hB (bfy hlh hhn))));clear h1 h2 hB;have SB:Hid (Bw wr wr.drew):=(Below.refl _ wr).drew;have SG:Hid (∀w',Bw wr w'->D3 w' tb tk tl th):=by
   refine Lh (λw' h=>?_);have:=((H1.out.1.below HB.out.2.2.1).below h).d3;rw[HT.out]at this;exact this
  obtain⟨VT,VK⟩:=Nm (Value.agg #[Sv tk,.int .i64 tl,.int .i64 th]);have aR:=Lh VK;have HB1:Hid (∀w',Bw wr w'->Bw w1 w'):=Lh (λw' h=>HB.out.2.2.1.trans (h.mono HB.out.2.2.1.size));by_cases hlt:lo<hi
  ·obtain⟨m,hm⟩:=Nm ((lo+hi) / 2);have hmid:lo<=m/\m<hi:=by omega
   have hme:((lo:Int)+(hi:Int)) / 2=(m:Int):=by omega
   obtain⟨x,pa,po,hx,hsa,_⟩:=HA.out.get (t:=m) (by rw[<-VD.out];omega)
   subst hsa;have HX:Hid (∀w',Bw wr w'->w'.cell? ⟨pa,po+m*8,none⟩=some (Sv x.p.w.key)/\w'.cell? ⟨pa,po+m*8+1,none⟩=some (.int .i64 x.p.w.lo)/\w'.cell? ⟨pa,po+m*8+2,none⟩=some (.int .i64 x.p.w.hi)/\w'.cell? ⟨pa,po+m*8+3,none⟩=some (.int .i64 x.p.a.n)/\w'.cell? ⟨pa,po+m*8+4,none⟩=some (.int .i64 x.p.a.a)/\w'.cell? ⟨pa,po+m*8+5,none⟩=some (x.tv)/\w'.cell? ⟨pa,po+m*8+6,none⟩=some (x.z)/\w'.cell? ⟨pa,po+m*8+7,none⟩=some (.int .i64 x.p.r)):=by
    refine Lh (λw' h=>?_);obtain⟨x',b',o',hx',ha',d⟩:=((HA.out.below H1.out.2).below (HB1.out w' h)).get (t:=m) (by rw[<-VD.out];omega)
    cases ha'
    rw[hx]at hx';cases hx'
    exact d
   obtain⟨VX,Vw⟩:=Nm (Value.agg x.cells);obtain⟨p,hp⟩:=Nm (gG x.p.w T);have V6:Hid (∀w',Calls prog 98 #[VX,VT] w' (bE w' (.int .i64 p))):=by
    rw[Vw,VK,hp,HT.out];exact Lh (λw'=>Bn w' x ⟨tk,tl,th⟩)
   have V9:=Lh Vw;have oK:Hid (p<0↔bJ (pX ws m) T):=by
    rw[hp,fF (HW.out m x hx)];exact Lh (gI _ _)
   have HI0:Hid ((0:Int)<=(m:Int)/\(m:Int)<(n:Int)):=Lh (by omega)
   have Hm:=Lh (bfy hmid (bfy hhn Tx));obtain⟨⟨⟨xk,xl,xh⟩,⟨xn,xa,xt,xu,xv⟩,xr⟩,Su,xz,Sw,Sz⟩:=x;clear hx Vw hp hm;by_cases hp0:p<0
   ·have Tz:Hid (p<0):=Lh hp0;have HZ:Hid (∀w',Bw wr w'->La w1 ws T (.int .i64 ((m:Int)+1)) (.int .i64 (hi:Int)) w'):=by
     refine Lh (λw' h=>⟨m+1,hi,by go_num,rfl,by have:=Hm.out;omega,by rw[<-HN.out.1];exact Hm.out.2.1,λi h1=>?_,by rw[<-HN.out.1];exact HB.out.2.1,HB1.out w' h⟩)
     exact HM.out i m (by omega) (by have:=Hm.out;omega) (oK.out.1 Tz.out)
    clear hp0;go_upto_region 5 with(fail);clear hme hmid hlt hlh hhn VK;refine bD (λi=>([]:List Nat).contains i) (by kernel_rfl) (NoF [none,none,none]) [] (λi_ _ _ v_=>v_=(((Value.func (.func 98) #[] #[])::(Value.slice (some ⟨pa,po,none⟩) n sc)::(Value.int .i64 (m:Int))::(Value.pointer (some ⟨pa,po+m*8,none⟩))::VX::VT::([.int .i64 p,.bool true]:List Value))).getD i_ undef) (λ_ w'=>Bw wr w') (λw w'=>Bw w w') (λ_ _ _ _ _ _ h=>h) (by kernel_rfl) (by kernel_rfl) (by kernel_rfl) SB.out (λ_=>⟨rfl,rfl,rfl,rfl,rfl,rfl,rfl,rfl,trivial⟩) (λ_ h=>by simp at h) ?_ ?_
    ·refine ⟨?_,?_,?_,?_,?_,?_,?_,?_,trivial⟩<;>intro _ _ a w' hG Si Sj K hK<;>replace Si:=Lh Si<;>replace Sj:=Lh Sj
     have q2:=FoA Si 2 (.func (.func 98) #[] #[]);rotate_left;have q0:=FoA Si 0 (.slice (some ⟨pa,po,none⟩) n sc);rotate_left;have Zp:=FiA Si 11 m;rotate_left;have V3:=Ep a 25 (.slice (some ⟨pa,po,none⟩) n sc) Sj.out.1;have V5:=Pi a 26 m Sj.out.2.1;have hi0:=HI0.out;rotate_left
     ·have Xe:=Ep a 27 (.pointer (some ⟨pa,po+m*8,none⟩)) Sj.out.1;obtain⟨d0,d1,d2,d3,d4,d5,d6,d7⟩:=HX.out w' hG;go_step;exact hK _ _ V9.out.symm hG Br
     ·have q4:=FaA Si 4 tb 0;obtain⟨d0,d1,d2⟩:=SG.out w' hG;go_step;exact hK _ _ aR.out.symm hG Br
     ·have q24:=Ep a 24 (.func (.func 98) #[] #[]) Sj.out.1;have XW:=Ep a 28 VX Sj.out.2.1;have YC:=Ep a 29 VT Sj.out.2.2.1;have HS:=Lh (V6.out w');go_step;refine HS.out.mono ?_;rintro e w3 ⟨rfl,hB⟩;exact hK _ _ rfl (Tb hG hB) hB
     have ZY:=Pi a 30 p Sj.out.1;have hp:=Tz.out;rotate_left
     all_goals(go_step;exact hK _ _ rfl hG Br)
    intro vs w2 hG hlen hV
    match vs,hlen,hV with
    | [v0,v1,v2,v3,v4,v5,v6,v7],_,hV=>
     obtain rfl:v7=.bool true:=(hV 7 31 v7 rfl rfl);clear hV;simp only[dG,bf7,bf1];simp only[Act.put,bfw,bfu,bfv];have Tw:=Lh (HZ.out w2 hG);have XJ:=Lh Hm.out;have YP:(m:Int)<=1000000:=by have:=Hm.out;omega
     clear hG;go_wp2_with(fail);go_roundw
     case rel=>exact Tw.out
     case measure=>have:=XJ.out;show(hi:Int).toNat-((m:Int)+1).toNat<(hi:Int).toNat-(lo:Int).toNat;omega
   have Tz:Hid (decide (p<0)=false):=Lh (bfq hp0);have HZ:Hid (∀w',Bw wr w'->La w1 ws T (.int .i64 (lo:Int)) (.int .i64 (m:Int)) w'):=by
    refine Lh (λw' h=>⟨lo,m,rfl,rfl,Hm.out.1.1,by rw[<-HN.out.1];have:=Hm.out;omega,HB.out.1,λi h1 h2 hc=>?_,HB1.out w' h⟩)
    exact hp0 (oK.out.2 (HM.out m i h1 (by rw[HN.out.1];exact h2) hc))
   clear hp0;go_upto_region 5 with(fail);clear hme hmid hlt hlh hhn VK;refine bD (λi=>([]:List Nat).contains i) (by kernel_rfl) (NoF [none,none,none]) [] (λi_ _ _ v_=>v_=(((Value.func (.func 98) #[] #[])::(Value.slice (some ⟨pa,po,none⟩) n sc)::(Value.int .i64 (m:Int))::(Value.pointer (some ⟨pa,po+m*8,none⟩))::VX::VT::([.int .i64 p,.bool false]:List Value))).getD i_ undef) (λ_ w'=>Bw wr w') (λw w'=>Bw w w') (λ_ _ _ _ _ _ h=>h) (by kernel_rfl) (by kernel_rfl) (by kernel_rfl) SB.out (λ_=>⟨rfl,rfl,rfl,rfl,rfl,rfl,rfl,rfl,trivial⟩) (λ_ h=>by simp at h) ?_ ?_
   ·refine ⟨?_,?_,?_,?_,?_,?_,?_,?_,trivial⟩<;>intro _ _ a w' hG Si Sj K hK<;>replace Si:=Lh Si<;>replace Sj:=Lh Sj
    have q2:=FoA Si 2 (.func (.func 98) #[] #[]);rotate_left;have q0:=FoA Si 0 (.slice (some ⟨pa,po,none⟩) n sc);rotate_left;have Zp:=FiA Si 11 m;rotate_left;have V3:=Ep a 25 (.slice (some ⟨pa,po,none⟩) n sc) Sj.out.1;have V5:=Pi a 26 m Sj.out.2.1;have hi0:=HI0.out;rotate_left
    ·have Xe:=Ep a 27 (.pointer (some ⟨pa,po+m*8,none⟩)) Sj.out.1;obtain⟨d0,d1,d2,d3,d4,d5,d6,d7⟩:=HX.out w' hG;go_step;exact hK _ _ V9.out.symm hG Br
    ·have q4:=FaA Si 4 tb 0;obtain⟨d0,d1,d2⟩:=SG.out w' hG;go_step;exact hK _ _ aR.out.symm hG Br
    ·have q24:=Ep a 24 (.func (.func 98) #[] #[]) Sj.out.1;have XW:=Ep a 28 VX Sj.out.2.1;have YC:=Ep a 29 VT Sj.out.2.2.1;have HS:=Lh (V6.out w');go_step;refine HS.out.mono ?_;rintro e w3 ⟨rfl,hB⟩;exact hK _ _ rfl (Tb hG hB) hB
    have ZY:=Pi a 30 p Sj.out.1;have hp:=Tz.out;rotate_left
    all_goals(go_step;exact hK _ _ rfl hG Br)
   intro vs w2 hG hlen hV
   match vs,hlen,hV with
   | [v0,v1,v2,v3,v4,v5,v6,v7],_,hV=>
    obtain rfl:v7=.bool false:=(hV 7 31 v7 rfl rfl);clear hV;simp only[dG,bf7,bf1];simp only[Act.put,bfw,bfu,bfv];have Tw:=Lh (HZ.out w2 hG);have XJ:=Lh Hm.out;have YP:(m:Int)<=1000000:=by have:=Hm.out;omega
    clear hG;go_wp2_with(fail);go_roundw
    case rel=>exact Tw.out
    case measure=>have:=XJ.out;show(m:Int).toNat-(lo:Int).toNat<(hi:Int).toNat-(lo:Int).toNat;omega
  obtain rfl:hi=lo:=by omega
  have VI:Hid (ky ws T hi):=Lh ⟨by rw[<-HN.out.1];exact hhn,HB.out.1,by rw[<-HN.out.1];exact HB.out.2.1⟩
  have TI:Hid (∀w' b,(b=true↔hi<ws.length/\pX ws hi=T)->Bw wr w'->P (.returned (.tuple #[.int .i64 (hi:Int),.bool b])) w'):=Lh (λw' b hb h=>Sl.out w' hi b VI.out hb (H1.out.2.trans ((HB1.out w' h).mono H1.out.2.size)));by_cases hin:hi<n
  ·obtain⟨x,pa,po,hx,hsa,_⟩:=HA.out.get (t:=hi) (by rw[<-VD.out];omega)
   subst hsa;have HX:Hid (∀w',Bw wr w'->w'.cell? ⟨pa,po+hi*8,none⟩=some (Sv x.p.w.key)/\w'.cell? ⟨pa,po+hi*8+1,none⟩=some (.int .i64 x.p.w.lo)/\w'.cell? ⟨pa,po+hi*8+2,none⟩=some (.int .i64 x.p.w.hi)/\w'.cell? ⟨pa,po+hi*8+3,none⟩=some (.int .i64 x.p.a.n)/\w'.cell? ⟨pa,po+hi*8+4,none⟩=some (.int .i64 x.p.a.a)/\w'.cell? ⟨pa,po+hi*8+5,none⟩=some (x.tv)/\w'.cell? ⟨pa,po+hi*8+6,none⟩=some (x.z)/\w'.cell? ⟨pa,po+hi*8+7,none⟩=some (.int .i64 x.p.r)):=by
    refine Lh (λw' h=>?_);obtain⟨x',b',o',hx',ha',d⟩:=((HA.out.below H1.out.2).below (HB1.out w' h)).get (t:=hi) (by rw[<-VD.out];omega)
    cases ha'
    rw[hx]at hx';cases hx'
    exact d
   obtain⟨VX,Vw⟩:=Nm (Value.agg x.cells);obtain⟨p,hp⟩:=Nm (gG x.p.w T);have V6:Hid (∀w',Calls prog 98 #[VX,VT] w' (bE w' (.int .i64 p))):=by
    rw[Vw,VK,hp,HT.out];exact Lh (λw'=>Bn w' x ⟨tk,tl,th⟩)
   have V9:=Lh Vw;have HI0:Hid ((0:Int)<=(hi:Int)/\(hi:Int)<(n:Int)):=Lh (by omega)
   obtain⟨qz,hqz⟩:=Nm (p==0);have HQ:=Lh hqz;have HF:Hid (qz=true↔hi<ws.length/\pX ws hi=T):=by
    rw[hqz,hp,fF (HW.out hi _ hx),beq_iff_eq];refine Lh ⟨λh=>⟨by rw[<-HN.out.1];exact hin,?_⟩,λh=>?_⟩
    ·rcases mQ x.p.w T with⟨e,_⟩ | ⟨_,e⟩ | ⟨e,_⟩
     ·rw[e]at h;cases h
     ·exact e
     rw[e]at h;cases h
    rcases mQ x.p.w T with⟨_,e⟩ | ⟨e,_⟩ | ⟨_,e⟩
    ·rw[h.2]at e;exact e.irrefl.elim
    ·exact e
    rw[h.2]at e;exact e.irrefl.elim
   obtain⟨⟨⟨xk,xl,xh⟩,⟨xn,xa,xt,xu,xv⟩,xr⟩,Su,xz,Sw,Sz⟩:=x;clear hx Vw hp hin hlt hlh hhn VK hqz;go_upto_region 8 with(fail);refine bD (λi=>([]:List Nat).contains i) (by kernel_rfl) (NoF (NoF (NoF [none]))) [] (λi_ _ _ v_=>v_=(((Value.int .i64 (hi:Int))::(Value.int .i64 (hi:Int))::(Value.int .i64 (n:Int))::(Value.bool true)::(Value.bool true)::(Value.func (.func 98) #[] #[])::(Value.slice (some ⟨pa,po,none⟩) n sc)::(Value.int .i64 (hi:Int))::(Value.pointer (some ⟨pa,po+hi*8,none⟩))::VX::VT::([.int .i64 p,.bool qz,.bool qz,.int .i64 (hi:Int),.bool qz]:List Value))).getD i_ undef) (λ_ w'=>Bw wr w') (λw w'=>Bw w w') (λ_ _ _ _ _ _ h=>h) (by kernel_rfl) (by kernel_rfl) (by kernel_rfl) SB.out (λ_=>⟨rfl,rfl,rfl,rfl,rfl,IlA,IlA,IlA,IlA,IlA,IlA,IlA,IlA,rfl,rfl,rfl,trivial⟩) (λ_ h=>by simp at h) ?_ ?_
   ·refine ⟨?_,?_,?_,?_,?_,?_,?_,?_,?_,?_,?_,?_,?_,?_,?_,?_,trivial⟩<;>intro _ _ a w' hG Si Sj K hK<;>replace Si:=Lh Si<;>replace Sj:=Lh Sj
    have q9:=FiA Si 9 hi;rotate_left;have q9:=FiA Si 9 hi;rotate_left;have q8:=FiA Si 8 n;rotate_left;have YS:=Pi a 36 hi Sj.out.1;have YD:=Pi a 37 n Sj.out.2.1;have hi0:=HI0.out;rotate_left;have XX:=Ep a 38 (.bool true) Sj.out.1;rotate_left;have q2:=FoA Si 2 (.func (.func 98) #[] #[]);rotate_left;have q0:=FoA Si 0 (.slice (some ⟨pa,po,none⟩) n sc);rotate_left;have q9:=FiA Si 9 hi;rotate_left;have Z0:=Ep a 41 (.slice (some ⟨pa,po,none⟩) n sc) Sj.out.1;have Z4:=Pi a 42 hi Sj.out.2.1;have hi0:=HI0.out;rotate_left
    ·have Z5:=Ep a 43 (.pointer (some ⟨pa,po+hi*8,none⟩)) Sj.out.1;obtain⟨d0,d1,d2,d3,d4,d5,d6,d7⟩:=HX.out w' hG;go_step;exact hK _ _ V9.out.symm hG Br
    ·have q4:=FaA Si 4 tb 0;obtain⟨d0,d1,d2⟩:=SG.out w' hG;go_step;exact hK _ _ aR.out.symm hG Br
    ·have YE:=Ep a 40 (.func (.func 98) #[] #[]) Sj.out.1;have YT:=Ep a 44 VX Sj.out.2.1;have Z6:=Ep a 45 VT Sj.out.2.2.1;have HS:=Lh (V6.out w');go_step;refine HS.out.mono ?_;rintro e w3 ⟨rfl,hB⟩;exact hK _ _ rfl (Tb hG hB) hB
    have Zy:=Pi a 46 p Sj.out.1;have e:=HQ.out.symm;rotate_left;have XY:=Ep a 39 (.bool true) Sj.out.1;have Zz:=Ep a 47 (.bool qz) Sj.out.2.1;rotate_left;have Xw:=Pi a 35 hi Sj.out.1;rotate_left;have Z7:=Ep a 48 (.bool qz) Sj.out.1;rotate_left
    all_goals(go_step;exact hK _ _ rfl hG Br)
   intro vs w2 hG hlen hV
   match vs,hlen,hV with
   | [v0,v1,v2,v3,v4,v5,v6,v7,v8,v9,v10,v11,v12,v13,v14,v15],_,hV=>
    obtain rfl:v14=.int .i64 (hi:Int):=(hV 14 6 v14 rfl rfl);obtain rfl:v15=.bool qz:=(hV 15 7 v15 rfl rfl);clear hV;simp only[dG,bf7,bf1];simp only[Act.put,bfw,bfu,bfv];have Tw:=Lh (TI.out w2 qz HF.out hG);clear hG;go_wp2_with(fail);exact Tw.out
  have HI0:Hid (decide (hi<n)=false):=Lh (bfq hin);have HF:Hid (false=true↔hi<ws.length/\pX ws hi=T):=Lh ⟨λh=>(by cases h),λh=>absurd h.1 (by rw[<-HN.out.1];exact hin)⟩
  clear hin hlt hlh hhn VK;go_upto_region 8 with(fail);refine bD (λi=>([5,6,7,8,9,10,11,12]:List Nat).contains i) (by kernel_rfl) (NoF (NoF (NoF [none]))) [] (λi_ _ _ v_=>v_=((([.int .i64 (hi:Int),.int .i64 (hi:Int),.int .i64 (n:Int),.bool false,.bool false,undef,undef,undef,undef,undef,undef,undef,undef,.bool false,.int .i64 (hi:Int),.bool false]:List Value))).getD i_ undef) (λ_ w'=>Bw wr w') (λw w'=>Bw w w') (λ_ _ _ _ _ _ h=>h) (by kernel_rfl) (by kernel_rfl) (by kernel_rfl) SB.out (λ_=>⟨rfl,rfl,rfl,rfl,rfl,IlA,IlA,IlA,IlA,IlA,IlA,IlA,IlA,rfl,rfl,rfl,trivial⟩) (λi hi=>by have hm:=List.contains_iff_mem.1 hi;simp only[bf2,bf9,or_false]at hm;rcases hm with rfl | rfl | rfl | rfl | rfl | rfl | rfl | rfl <;> exact⟨rfl,λ_ _=>rfl⟩) ?_ ?_
  ·refine ⟨?_,?_,?_,?_,?_,?_,?_,?_,?_,?_,?_,?_,?_,?_,?_,?_,trivial⟩<;>(first|exact λh=>absurd h (by decide)|intro _ _ a w' hG Si Sj K hK)<;>replace Si:=Lh Si<;>replace Sj:=Lh Sj
   have q9:=FiA Si 9 hi;rotate_left;have q9:=FiA Si 9 hi;rotate_left;have q8:=FiA Si 8 n;rotate_left;have YS:=Pi a 36 hi Sj.out.1;have YD:=Pi a 37 n Sj.out.2.1;have hi0:=HI0.out;rotate_left;have XX:=Ep a 38 (.bool false) Sj.out.1;rotate_left;have XY:=Ep a 39 (.bool false) Sj.out.1;have Zz:=Ep a 47 undef Sj.out.2.1;rotate_left;have Xw:=Pi a 35 hi Sj.out.1;rotate_left;have Z7:=Ep a 48 (.bool false) Sj.out.1;rotate_left
   all_goals(go_step;exact hK _ _ rfl hG Br)
  intro vs w2 hG hlen hV
  match vs,hlen,hV with
  | [v0,v1,v2,v3,v4,v5,v6,v7,v8,v9,v10,v11,v12,v13,v14,v15],_,hV=>
   obtain rfl:v14=.int .i64 (hi:Int):=(hV 14 6 v14 rfl rfl);obtain rfl:v15=.bool false:=(hV 15 7 v15 rfl rfl);clear hV;simp only[dG,bf7,bf1];simp only[Act.put,bfw,bfu,bfv];have Tw:=Lh (TI.out w2 false HF.out hG);clear hG;go_wp2_with(fail);exact Tw.out
end Go.Proofs.YtjeeghafachebaaGreat
