/-
  52.
-/
import Derived.Test.YtjeeghafachebaaGreatU50
import Derived.Test.YtjeeghafachebaaGreatU51
set_option maxRecDepth 100000
set_option maxHeartbeats 8000000
namespace Go.Proofs.YtjeeghafachebaaGreat
open Go Go.RowKit Go.Proofs.Tryz
theorem Pp {w:World} {m1 m2:Int} {TR T9:Value} {q1 q2:bz} {s1 s2:di}(h1:gW w (.agg #[.int .i64 m1,TR]) s1)(h2:gW w (.agg #[.int .i64 m2,T9]) s2)(c1:dL q1 s1.panes 256)(c2:dL q2 s2.panes 256):
  Calls prog 11 #[.agg #[.int .i64 m1,TR],.agg #[.int .i64 m2,T9]] w (bE w (.bool (decide (s1=s2)))):=by
 obtain⟨p1,l1,e1,a1,b1,d1⟩:=h1;obtain⟨p2,l2,e2,a2,b2,d2⟩:=h2;have f1:m1=s1.mark/\TR=p1:=by simpa using e1
 have f2:m2=s2.mark/\T9=p2:=by simpa using e2
 obtain⟨rfl,rfl⟩:=f1;obtain⟨rfl,rfl⟩:=f2;have h:=Kh w s1.mark TR l1 s2.mark T9 l2 a1 a2 b1 b2 (Fp c1 d1) (Fp c2 d2);rw[<-d1,<-d2]at h;exact h
theorem FI {w:World} {v1 v2:Value} {o1 o2:List dB}(h1:fw w v1 o1)(h2:fw w v2 o2)(f1:jr o1)(f2:jr o2)(n1:o1.length<=1000000)(n2:o2.length<=1000000):
  Calls prog 12 #[v1,v2] w (bE w (.bool (decide (o1=o2)))):=by
 obtain⟨a1,c1,l1,rfl,_,e1,g1,rfl⟩:=h1;obtain⟨a2,c2,l2,rfl,_,e2,g2,rfl⟩:=h2;rw[bfz]at n1 n2;exact Cx w a1 a2 c1 c2 l1 l2 e1 e2 (λx hx=>⟨g1 x hx,f1 x.o (List.mem_map.2 ⟨x,hx,rfl⟩)⟩) (λx hx=>⟨g2 x hx,f2 x.o (List.mem_map.2 ⟨x,hx,rfl⟩)⟩) n1 n2
theorem wu:prog.built 29 [(0,.int .i64 (-1))]=some #[.int .i64 (-1),.slice none 0 0]:=by kernel_rfl
theorem Mm(w:World)(q:bz)(ia:Option Addr)(ic:Nat)(its:List bN)(hI:gq w ia its)(hk:∀x∈its,x.key.length<=1048576)(hl:its.length<=1048576):
  Calls prog 3 #[.agg q.cells,.slice ia its.length ic] w (bE w (.bool true)):=by
 have mixed:prog.follows .mixedOrders=true:=by kernel_rfl
 have HF:=Lh (λw'=>JV w');obtain⟨g,hg⟩:=Nm (je its);have Iy:Hid (∀w',Bw w w'->Calls prog 7 #[.slice ia its.length ic] w' (bE w' (.int .i64 ((g:Nat):Int)))):=by
  rw[hg];exact Lh (λw' hB=>LV w' ia ic its (hI.below hB) hk hl)
 obtain⟨N,hN⟩:=Nm (its.length);have HA:Hid (gq w ia its/\N=its.length/\g=je its):=Lh ⟨hI,hN,hg⟩;rw[<-hN]at Iy ⊢;have hNb:N<=1048576:=by omega
 obtain⟨w1,hw1⟩:=Nm (w.alloc (.cells q.cells 23));obtain⟨qb,Sm⟩:=Nm (w.heap.size);have H1:Hid (dn w1 qb q/\Bw w w1):=by rw[hw1,Sm];exact Lh (KP w q)
 clear hI hk hl hN hg;obtain⟨Q,hQ⟩:=Nm q;rw[<-hQ]at H1;obtain⟨kind,size,slide,late,agg,kq⟩:=q;have SV:Hid (∀w',dn w' qb Q->D6 w' qb kind size slide late agg kq):=by rw[hQ];exact Lh (λw' h=>h.d6)
 unfold bz.cells at hw1 ⊢;simp only at hw1 ⊢;go_enter func3,ntmps3;go_upto_region 1 with(fail);rw[<-hw1,<-Sm];clear hw1 Sm;go_wp2_with(fail);refine(HF.out w1).mono ?_;rintro e w2 ⟨rfl,hB⟩;have H2:Hid (dn w2 qb Q/\Bw w w2):=Lh ⟨H1.out.1.below hB,H1.out.2.trans (hB.mono H1.out.2.size)⟩;clear hB;dsimp only;by_cases hgr:1500<g
 ·go_wp2_with(fail);refine(Iy.out w2 H2.out.2).mono ?_;rintro e w3 ⟨rfl,hB⟩;have HZ:=Lh (H2.out.2.trans (hB.mono H2.out.2.size));clear hB;dsimp only;go_wp2_with(fail);go_ret;exact⟨rfl,HZ.out⟩
 go_wp2_with(fail);refine(Iy.out w2 H2.out.2).mono ?_;rintro e w3 ⟨rfl,hB⟩;have H3:Hid (dn w3 qb Q/\Bw w w3):=Lh ⟨H2.out.1.below hB,H2.out.2.trans (hB.mono H2.out.2.size)⟩;clear hB;dsimp only;go_upto_region 5 with(fail);obtain⟨r1,hr1⟩:=Nm (qB Q xU its);have hkey:∀x∈its,x.key.length<=1000000:=λx hx=>by have:=vI hx;have:=HA.out.2.2;omega
 have hlen:its.length<=3000:=by have:=p8 its;have:=HA.out.2.2;omega
 have ZO:qG []:=⟨λx hx=>by simp at hx,by simp⟩
 have X9:Hid (jr r1.outs/\r1.outs.length<=1000000/\dL Q r1.s.panes 256):=by
  obtain⟨k1,k2,k3⟩:=Pq (q:=Q) (s:=xU) (its:=its) (KY Q) hkey;rw[<-hr1]at k1 k2 k3;exact Lh ⟨k1,by omega,k3⟩
 obtain⟨S1,O1,N1,E1⟩:=r1;simp only at X9;have HR1:Hid (∀w',Bw w w'->Calls prog 8 #[.agg #[.int .i64 kind,.int .i64 size,.int .i64 slide,.int .i64 late,.int .i64 agg,.int .i64 kq],.agg #[.int .i64 (-1),.slice none 0 0],.slice ia N ic] w' (rU w' ⟨S1,O1,N1,E1⟩)):=by
  refine Lh (λw' hB=>?_);have h:=Bu w' Q (-1) (.slice none 0 0) [] ia ic its (bO.nil _) (λy hy=>by simp at hy) ZO (HA.out.1.below hB) hkey hlen
  rw[<-HA.out.2.1,hQ]at h;rw[hr1,hQ];exact h
 have HR2:Hid (∀w',Bw w w'->Calls prog 10 #[.agg #[.int .i64 kind,.int .i64 size,.int .i64 slide,.int .i64 late,.int .i64 agg,.int .i64 kq],.agg #[.int .i64 (-1),.slice none 0 0],.slice ia N ic] w' (rU w' ⟨S1,O1,N1,E1⟩)):=by
  refine Lh (λw' hB=>?_);have h:=MB w' Q (-1) (.slice none 0 0) [] ia ic its (bO.nil _) (λy hy=>by simp at hy) (λhq=>Bl hq) (HA.out.1.below hB) hkey hlen
  have e:runT Q ⟨-1,([]:List bn).map bn.p⟩ [] 0 its=⟨S1,O1,N1,E1⟩:=(Pv Q its).trans hr1.symm;rw[e,<-HA.out.2.1,hQ]at h;exact h
 clear hr1 hkey hlen ZO hgr;have Y2:Hid (∀w',Calls prog 9 #[] w' (λe w''=>e=.returned (.agg #[.int .i64 (-1),bS])/\Bw w' w'')):=Lh (λw'=>Bp w');have ED:Hid (∀w',Bw w3 w'->D6 w' qb kind size slide late agg kq):=Lh (λw' h=>SV.out w' (H3.out.1.below h));have SB:Hid (Bw w3 w3.drew):=Lh (Below.refl _ w3).drew;refine dZ (λi=>([]:List Nat).contains i) (by kernel_rfl) (NoF [none,none,none,none,some 0,some 1,none,none,none]) [9,10] (DT (([.agg #[.int .i64 kind,.int .i64 size,.int .i64 slide,.int .i64 late,.int .i64 agg,.int .i64 kq],.agg #[.int .i64 (-1),.slice none 0 0],.slice ia N ic,undef,undef,undef,undef,.int .i64 N1,.int .i64 E1,undef,undef,undef,.int .i64 N1,.int .i64 E1]:List Value)) (Qq 3 w3.heap.size (kC.mk S1 O1 N1 E1))) (λ_ w'=>Bw w3 w') (λw w'=>Bw w w') (lX _ _ Nv) (by kernel_rfl) (by kernel_rfl) (by kernel_rfl) SB.out (λ_=>⟨rfl,rfl,rfl,rfl,rfl,rfl,rfl,rfl,rfl,rfl,rfl,rfl,rfl,rfl,trivial⟩) (λ_ h=>by simp at h) ?_ ?_
 ·refine ⟨?_,?_,?_,?_,?_,?_,?_,?_,?_,?_,?_,?_,?_,?_,trivial⟩<;>(first|(intro _ _ a w' hG Si Sj K hK;guard_hyp w':World)|intro _ a w' hG Si Sj K hK)<;>replace Si:=Lh Si<;>replace Sj:=Lh Sj
  have q2:=FaA Si 2 qb 0;obtain⟨d0,d1,d2,d3,d4,d5⟩:=ED.out w' hG;rotate_left
  ·have HS:=Lh (Y2.out w');go_step;refine HS.out.mono ?_;rintro e w3_ ⟨rfl,hB⟩;exact hK _ _ rfl (Tb hG hB) hB
  have q1:=FoA Si 1 (.slice ia N ic);rotate_left
  ·have VV:=Ep a 19 (.agg #[.int .i64 kind,.int .i64 size,.int .i64 slide,.int .i64 late,.int .i64 agg,.int .i64 kq]) Sj.out.1;have Wy:=Ep a 20 (.agg #[.int .i64 (-1),.slice none 0 0]) Sj.out.2.1;have VZ:=Ep a 21 (.slice ia N ic) Sj.out.2.2.1;have HS:=Lh (HR1.out w' (H3.out.2.trans (hG.mono H3.out.2.size)));go_step;refine HS.out.mono ?_;rintro e w3_ ⟨sv,ov,rfl,hS,hO,hB⟩;exact hK _ _ ⟨sv,ov,rfl,hS,hO⟩ (Tb hG hB) hB
  ·obtain ⟨p0,_⟩:=Sj.out;obtain⟨sv,ov,hv,hS,hO⟩:=(show zt (kC.mk S1 O1 N1 E1) w' (a.eval (.tmp 22))from p0);have q22:=bf hv;clear hv;go_step;exact hK _ _ ⟨sv,ov,rfl,hS,hO⟩ hG Br
  ·obtain ⟨p0,_⟩:=Sj.out;obtain⟨sv,ov,hv,hS,hO⟩:=(show zt (kC.mk S1 O1 N1 E1) w' (a.eval (.tmp 18))from p0);have Vn:=bf hv;clear hv;go_step;exact hK _ _ hS hG Br
  ·obtain ⟨p0,_⟩:=Sj.out;obtain⟨sv,ov,hv,hS,hO⟩:=(show zt (kC.mk S1 O1 N1 E1) w' (a.eval (.tmp 18))from p0);have Vn:=bf hv;clear hv;go_step;exact hK _ _ hO hG Br
  obtain ⟨p0,_⟩:=Sj.out;obtain⟨sv,ov,hv,hS,hO⟩:=(show zt (kC.mk S1 O1 N1 E1) w' (a.eval (.tmp 18))from p0);have Vn:=bf hv;clear hv;rotate_left;obtain ⟨p0,_⟩:=Sj.out;obtain⟨sv,ov,hv,hS,hO⟩:=(show zt (kC.mk S1 O1 N1 E1) w' (a.eval (.tmp 18))from p0);have Vn:=bf hv;clear hv;rotate_left
  ·go_step;exact hK _ _ ⟨_,rfl,hG.size,by rw[if_pos (by decide)];exact bg5 w' _⟩ (hG.trans (((Below.refl _ w').alloc (bfx _) _).mono hG.size)) (gN _ (CL ((Below.refl _ w').alloc (bfx _) _)))
  ·obtain ⟨p0,p1,_⟩:=Sj.out;obtain⟨b,hv,WW,hrow⟩:=(show Ro w3.heap.size (kC.mk S1 O1 N1 E1) 1 w' (a.eval (.tmp 5))from p0);obtain⟨pv,l,hv2,uT,OD,OE⟩:=(show gW w' (a.eval (.tmp 23)) S1 from p1);rw[if_pos (by decide)]at hrow
   refine wp_store_row _ (.tmp 5) (.tmp 23) rfl b #[.int .i64 S1.mark,pv] hv hv2 _ _ hrow bF rfl (cB uT.one) ?_;have hg:w'.grownBy (w'.setRow b #[.int .i64 S1.mark,pv]) (some b):=bC _ _ _;exact hK _ _ rfl (hG.trans ⟨hg.os,hg.tape,hg.output,hg.size,λk hk=>hg.block k (by have:=hG.size;omega) (by simp;omega)⟩) (gN _ (F8 rfl hv hrow WW hg (hrow.reset _ _) (gW.store ⟨pv,l,rfl,uT,OD,OE⟩ hrow hg)))
  ·obtain ⟨p0,_⟩:=Sj.out;obtain hO:=(show fw w' (a.eval (.tmp 24)) O1 from p0);obtain⟨vo,Ay⟩:∃v,a.eval (.tmp 24)=v:=⟨_,rfl⟩;rw[Ay]at hO;have q24:=bf Ay;go_step;exact hK _ _ hO hG Br
  have V3:=Pi a 25 N1 Sj.out.1;rotate_left;have V5:=Pi a 26 E1 Sj.out.1;rotate_left
  all_goals(go_step;exact hK _ _ rfl hG Br)
 intro vs w4 hG hlen hV
 match vs,hlen,hV with
 | [v0,v1,v2,v3,v4,v5,v6,v7,v8,v9,v10,v11,v12,v13],_,hV=>
  obtain⟨Ig,hvb,uV,hrow⟩:=(show Ro w3.heap.size (kC.mk S1 O1 N1 E1) 2 w4 v9 from hV 9 5 v9 rfl rfl);rw[if_neg (by decide)]at hrow
  obtain⟨m1,TR,hrow,hS⟩:=hrow;have hO:=(show fw w4 v11 O1 from hV 11 6 v11 rfl rfl);obtain rfl:v12=.int .i64 N1:=hV 12 7 v12 rfl rfl;obtain rfl:v13=.int .i64 E1:=hV 13 8 v13 rfl rfl;subst hvb;clear hV;obtain⟨o1,ho1⟩:=Nm v11;rw[<-ho1]at hO;rw[<-ho1];have WS:Hid (Bw w3 w4/\bT w4 Ig m1 TR/\gW w4 (.agg #[.int .i64 m1,TR]) S1/\fw w4 o1 O1):=Lh ⟨hG,hrow,hS,hO⟩;clear hrow hS hO hG uV ho1;simp only[dG,bf7,bf1];simp only[Act.put,bfw,bfu,bfv];have H4:Hid (dn w4 qb Q/\Bw w w4/\bT w4 Ig m1 TR/\gW w4 (.agg #[.int .i64 m1,TR]) S1/\fw w4 o1 O1):=Lh ⟨H3.out.1.below WS.out.1,H3.out.2.trans (WS.out.1.mono H3.out.2.size),WS.out.2⟩;clear WS SB ED H3 HR1;obtain⟨d0,d1,d2,d3,d4,d5⟩:=SV.out w4 H4.out.1;go_upto_region 6 with(fail);refine bg4 ?_
  iterate 3 go_step
  refine dm (by kernel_rfl) 29 _ rfl #[.int .i64 (-1),.slice none 0 0] (by first | exact wu | (simp only[bgb,bgc,bge];exact wu) | kernel_rfl) ?_
  iterate 3 go_step
  refine wpList_plain rfl λK' hK'=>?_;go_step;refine(HR2.out w4 H4.out.2.1).mono ?_;rintro e w5 ⟨sv,o2,rfl,⟨T9,l2,rfl,hP1,hP2,hP3⟩,hO,hB⟩;refine hK' _ _ ?_;obtain⟨m2,hm2⟩:=Nm (S1.mark);rw[<-hm2];have H5:Hid (Bw w w5/\bT w5 Ig m1 TR/\gW w5 (.agg #[.int .i64 m1,TR]) S1/\fw w5 o1 O1/\gW w5 (.agg #[.int .i64 m2,T9]) S1/\fw w5 o2 O1/\bO w5 T9 l2):=Lh ⟨H4.out.2.1.trans (hB.mono H4.out.2.1.size),H4.out.2.2.1.below hB,H4.out.2.2.2.1.below hB,H4.out.2.2.2.2.below hB,⟨T9,l2,by rw[hm2],hP1,hP2,hP3⟩,hO,hP1⟩
  clear hK' hB hP1 hP2 hP3 hO hm2 d0 d1 d2 d3 d4 d5 H4
  iterate 18 go_step
  refine bg6 rfl _ _ _ rfl w5.heap.size #[.int .i64 m2,T9] rfl rfl 29 #[.int .i64 0,bS] (bg5 w5 _) bF rfl (cB H5.out.2.2.2.2.2.2.one) ?_;obtain⟨w6,SN⟩:=Nm ((w5.alloc (Obj.cells #[.int .i64 0,.slice none 0 0] 29)).setRow w5.heap.size #[.int .i64 m2,T9]);obtain⟨tb2,htb⟩:=Nm (w5.heap.size);have H6:Hid (Bw w w6/\bT w6 Ig m1 TR/\gW w6 (.agg #[.int .i64 m1,TR]) S1/\fw w6 o1 O1/\gW w6 (.agg #[.int .i64 m2,T9]) S1/\fw w6 o2 O1/\bT w6 tb2 m2 T9):=by
   obtain⟨k1,k2⟩:=jH w5 m2 T9;have e:w6=(w5.alloc (Obj.cells #[.int .i64 0,bS] 29)).setRow w5.heap.size #[.int .i64 m2,T9]:=SN;rw[<-e,<-htb]at k1;rw[<-e]at k2;obtain⟨j1,j2,j3,j4,j5,j6,_⟩:=H5.out;exact Lh ⟨Tb j1 k2,j2.below k2,j3.below k2,j4.below k2,j5.below k2,j6.below k2,k1⟩
  rw[<-SN,<-htb];clear SN htb H5;have HSm:Hid (Calls prog 11 #[.agg #[.int .i64 m1,TR],.agg #[.int .i64 m2,T9]] w6 (bE w6 (.bool true))):=by
   have h:=Pp H6.out.2.2.1 H6.out.2.2.2.2.1 X9.out.2.2 X9.out.2.2;rw[bfr rfl]at h;exact Lh h
  have iQ:Hid (∀w',Bw w6 w'->Calls prog 12 #[o1,o2] w' (bE w' (.bool true))):=by
   refine Lh (λw' hB=>?_);have h:=FI (H6.out.2.2.2.1.below hB) (H6.out.2.2.2.2.2.1.below hB) X9.out.1 X9.out.1 X9.out.2.1 X9.out.2.1;rw[bfr rfl]at h;exact h
  have HSp:Hid (∀w',Bw w6 w'->Calls prog 13 #[o1,o2] w' (bE w' (.bool true))):=by
   refine Lh (λw' hB=>?_);have h:=yY (H6.out.2.2.2.1.below hB) (H6.out.2.2.2.2.2.1.below hB) X9.out.1 X9.out.1 X9.out.2.1 X9.out.2.1;rw[bfr rfl]at h;exact h
  have hnn:(N1==N1)=true:=by simp
  have hee:(E1==E1)=true:=by simp
  obtain⟨e0,e1⟩:=H6.out.2.1.d2;obtain⟨f0,f1⟩:=H6.out.2.2.2.2.2.2.d2;go_wp2_with(fail);refine HSm.out.mono ?_;rintro e w7 ⟨rfl,hB⟩;have H7:=Lh hB;clear hB e0 e1 f0 f1;dsimp only;go_wp2_with(fail);refine(iQ.out w7 H7.out).mono ?_;rintro e w8 ⟨rfl,hB⟩;have H8:=Lh (Tb H7.out hB);clear hB;dsimp only;go_wp2_with(fail);refine(HSp.out w8 H8.out).mono ?_;rintro e w9 ⟨rfl,hB⟩;have HZ:=Lh (H6.out.1.trans ((Tb H8.out hB).mono H6.out.1.size));clear hB;dsimp only;go_wp2_with(fail);go_ret;exact⟨rfl,HZ.out⟩
end Go.Proofs.YtjeeghafachebaaGreat
