/-
  18.
-/
import Derived.Test.YtjeeghafachebaaGreatU16
import Derived.Test.YtjeeghafachebaaGreatU17
set_option maxRecDepth 100000
set_option maxHeartbeats 2000000
namespace Go.Proofs.YtjeeghafachebaaGreat
open Go Go.RowKit Go.Proofs.Tryz
theorem nk(w:World)(q:bz)(x:dS)(tv z:Value)(hT:bA w tv x.top)(hz:dw z x.u x.v)(hn:x.top.length<=1000000):
  Calls prog 32 #[.agg q.cells,.agg (bI x.n x.a tv z)] w (bE w (.bool (x.bB q))):=by
 obtain⟨P,hP⟩:=Nm (bE w (.bool (x.bB q)));rw[<-hP];rw[wW]at hP;obtain⟨n,av,l,u,v⟩:=x;simp only at hT hz hn hP ⊢;have HT:=Lh hT;obtain⟨ta,tc,rfl,_,_⟩:=hT;obtain⟨L,hL⟩:=Nm (l.length);rw[<-hL]at hP HT hn ⊢;obtain⟨r1,hr1⟩:=Nm (q.bB);obtain⟨M,hM⟩:=Nm (vv q.agg n);obtain⟨T,Zg⟩:=Nm (BV q.agg q.k n);obtain⟨b1,hb1⟩:=Nm (jL av M);obtain⟨b2,hb2⟩:=Nm (decide ((L:Int)=T));obtain⟨b3,hb3⟩:=Nm (wH l);obtain⟨b4,hb4⟩:=Nm (xZ q.agg n u v);have HP:Hid (∀w' r,Bw w w'->r=(r1 && (decide (0<=n/\n<=1073741824) && (b1 && (b2 && (b3 && b4)))))->P (.returned (.bool r)) w'):=by
  refine Lh (λw' r h hr=>?_);rw[hP,hr,hr1,hb1,hb2,hb3,hb4,Zg,hM];exact⟨rfl,h⟩
 obtain⟨w1,hw1⟩:=Nm ((w.alloc (.cells q.cells 23)).alloc (.cells (bI n av (.slice ta L tc) z) 53));obtain⟨qb,Sm⟩:=Nm (w.heap.size);obtain⟨ab,hab⟩:=Nm (w.heap.size+1);have H1:Hid (dn w1 qb q/\bW w1 ab n av (.slice ta L tc) z/\Bw w w1):=by rw[hw1,Sm,hab];exact Lh (qK w q n av _ z)
 have hs1:(w.alloc (.cells q.cells 23)).heap.size=w.heap.size+1:=bq w _;obtain⟨VQ,SS⟩:=Nm (Value.agg q.cells);obtain⟨VA,Xo⟩:=Nm (Value.agg (bI n av (.slice ta L tc) z));have VO:Hid (∀w',Calls prog 28 #[VQ] w' (bE w' (.bool r1))):=by rw[SS,hr1];exact Lh (λw'=>nN w' q)
 have SH:Hid (∀w',Calls prog 56 #[VQ,.int .i64 n] w' (bE w' (.int .i64 M))):=by rw[SS,hM];exact Lh (λw'=>Jh w' q n)
 have Ve:Hid (∀w',Calls prog 55 #[.int .i64 av,.int .i64 M] w' (λe w''=>e=.returned (.bool b1)/\w''=w')):=by
  have uS:0<=M/\M<=4611686018427387904:=by
   rw[hM,vv];have:=wR q.agg
   split <;> omega
  rw[hb1];exact Lh (λw'=>rX w' av M uS)
 have YG:Hid (∀w',Calls prog 57 #[VQ,.int .i64 n] w' (bE w' (.int .i64 T))):=by rw[SS,Zg];exact Lh (λw'=>Lr w' q n)
 have Wl:Hid (∀w',Bw w w'->Calls prog 58 #[.slice ta L tc] w' (λe w''=>e=.returned (.bool b3)/\w''=w')):=by
  rw[hb3];exact Lh (λw' h=>DV w' _ l (HT.out.below h) (by omega))
 have Vi:Hid (∀w',Calls prog 59 #[VQ,VA] w' (bE w' (.bool b4))):=by
  rw[SS,Xo,hb4];exact Lh (λw'=>Ji w' q n av _ z u v hz)
 have Ze:((L:Int)==T)=b2:=by
  rw[hb2];by_cases h:(L:Int)=T
  ·rw[bfr h];simpa using h
  rw[bfq h];simpa using h
 have II:=Lh Ze;clear hz hn hr1 hM Zg hb1 hb2 hb3 hb4 hL hP Ze;obtain⟨kind,size,slide,late,agg,k⟩:=q;have HV:Hid (VQ=Value.agg #[.int .i64 kind,.int .i64 size,.int .i64 slide,.int .i64 late,.int .i64 agg,.int .i64 k]/\VA=Value.agg #[.int .i64 n,.int .i64 av,.slice ta L tc,z]):=Lh ⟨SS,Xo⟩;unfold bz.cells at hw1 hs1 ⊢;unfold bI at hw1 ⊢;simp only at hw1 hs1;clear SS Xo;obtain⟨d0,d1,d2,d3,d4,d5⟩:=H1.out.1.d6;obtain⟨f0,f1,f2,f3⟩:=H1.out.2.1.d4;simp only at d0 d1 d2 d3 d4 d5;go_enter func32,ntmps32;go_upto_region 1 with(fail);rw[<-hw1,<-hab,<-Sm];clear hw1 Sm hab hs1;have oL:Hid (Calls prog 28 #[.agg #[.int .i64 kind,.int .i64 size,.int .i64 slide,.int .i64 late,.int .i64 agg,.int .i64 k]] w1 (bE w1 (.bool r1))):=by
  have h:=VO.out w1;rw[HV.out.1]at h;exact Lh h
 go_wp2_with(fail);refine oL.out.mono ?_;rintro e w2 ⟨rfl,hB⟩;have H2:Hid (dn w2 qb ⟨kind,size,slide,late,agg,k⟩/\bW w2 ab n av (.slice ta L tc) z/\Bw w w2):=Lh ⟨H1.out.1.below hB,H1.out.2.1.below hB,H1.out.2.2.trans (hB.mono H1.out.2.2.size)⟩;clear hB d0 d1 d2 d3 d4 d5 f0 f1 f2 f3 H1 VO oL;obtain⟨f0,f1,f2,f3⟩:=H2.out.2.1.d4;dsimp only
 cases r1 with
 | false=>
  have HZ:=Lh (HP.out w2 false H2.out.2.2 rfl);go_wp2_with(fail);exact HZ.out
 | true=>
 by_cases h1:n<0
 ·have HZ:=Lh (HP.out w2 false H2.out.2.2 (by rw[bfq (by omega)];rfl))
  go_wp2_with(fail);exact HZ.out
 have e1:decide (n<0)=false:=bfq h1;by_cases h2:(1073741824:Int)<n
 ·have HZ:=Lh (HP.out w2 false H2.out.2.2 (by rw[bfq (by omega)];rfl))
  clear h1;go_wp2_with(fail);exact HZ.out
 have e2:decide ((1073741824:Int)<n)=false:=bfq h2;have EB:Hid (∀w' r,Bw w2 w'->r=(b1 && (b2 && (b3 && b4)))->P (.returned (.bool r)) w'):=by
  refine Lh (λw' r h hr=>HP.out w' r (H2.out.2.2.trans (h.mono H2.out.2.2.size)) ?_);rw[bfr (show 0<=n/\n<=1073741824 by omega),hr]
  rfl
 clear h1 h2;go_upto_region 3 with(fail);clear f0 f1 f2 f3 e1 e2;have HR:Hid (∀w',Bw w2 w'->D6 w' qb kind size slide late agg k/\D4 w' ab n av (.slice ta L tc) z):=Lh (λw' h=>⟨(H2.out.1.below h).d6,(H2.out.2.1.below h).d4⟩);have oM:Hid (∀w',Bw w2 w'->Calls prog 58 #[.slice ta L tc] w' (λe w''=>e=.returned (.bool b3)/\w''=w')):=Lh (λw' h=>Wl.out w' (H2.out.2.2.trans (h.mono H2.out.2.2.size)));have SB:Hid (Bw w2 w2.drew):=(Below.refl _ w2).drew;clear Wl H2 HP
 cases b1 with
 | false=>
  refine bD (λi=>([8,9,10,11,12,13,14,15,18,19,20,23,24,25]:List Nat).contains i) (by kernel_rfl) (NoF (NoF (NoF (NoF (NoF [none,none,none]))))) [] (λi_ _ _ v_=>v_=(((Value.pointer (some ⟨ab,1,none⟩))::(Value.int .i64 av)::VQ::([.pointer (some ⟨ab,0,none⟩),.int .i64 n,.int .i64 M,.bool false,.bool false,undef,undef,undef,undef,undef,undef,undef,undef,.bool false,.bool false,undef,undef,undef,.bool false,.bool false,undef,undef,undef,.bool false,.bool false]:List Value))).getD i_ undef) (λ_ w'=>Bw w2 w') (λw w'=>Bw w w') (λ_ _ _ _ _ _ h=>h) (by kernel_rfl) (by kernel_rfl) (by kernel_rfl) SB.out (λ_=>⟨rfl,rfl,rfl,rfl,rfl,rfl,rfl,rfl,IlA,IlA,IlA,IlA,IlA,IlA,IlA,IlA,rfl,rfl,IlA,IlA,IlA,rfl,rfl,IlA,IlA,IlA,rfl,rfl,trivial⟩) (λi hi=>by have hm:=List.contains_iff_mem.1 hi;simp only[bf2,bf9,or_false]at hm;rcases hm with rfl | rfl | rfl | rfl | rfl | rfl | rfl | rfl | rfl | rfl | rfl | rfl | rfl | rfl <;> exact⟨rfl,λ_ _=>rfl⟩) ?_ ?_
  ·refine ⟨?_,?_,?_,?_,?_,?_,?_,?_,?_,?_,?_,?_,?_,?_,?_,?_,?_,?_,?_,?_,?_,?_,?_,?_,?_,?_,?_,?_,trivial⟩<;>(first|exact λh=>absurd h (by decide)|intro _ _ a w' hG Si Sj K hK)<;>replace Si:=Lh Si<;>replace Sj:=Lh Sj
   have q3:=FaA Si 3 ab 0;rotate_left;have Vn:=Pa a 18 ab 1 Sj.out.1;obtain⟨⟨d0,d1,d2,d3,d4,d5⟩,f0,f1,f2,f3⟩:=HR.out w' hG;rotate_left
   ·have q2:=FaA Si 2 qb 0;obtain⟨⟨d0,d1,d2,d3,d4,d5⟩,f0,f1,f2,f3⟩:=HR.out w' hG;go_step;exact hK _ _ HV.out.1.symm hG Br
   have q3:=FaA Si 3 ab 0;rotate_left;have VZ:=Pa a 21 ab 0 Sj.out.1;obtain⟨⟨d0,d1,d2,d3,d4,d5⟩,f0,f1,f2,f3⟩:=HR.out w' hG;rotate_left
   ·have Wy:=Ep a 20 VQ Sj.out.1;have q22:=Pi a 22 n Sj.out.2.1;have HS:=Lh (SH.out w');go_step;refine HS.out.mono ?_;rintro e w3 ⟨rfl,hB⟩;exact hK _ _ rfl (Tb hG hB) hB
   ·have VV:=Pi a 19 av Sj.out.1;have Wi:=Pi a 23 M Sj.out.2.1;have HS:=Lh (Ve.out w');go_step;refine HS.out.mono ?_;rintro e w3 ⟨rfl,hw3⟩;subst w3;exact hK _ _ rfl hG Br
   have q24:=Ep a 24 (.bool false) Sj.out.1;rotate_left;have V3:=Ep a 25 (.bool false) Sj.out.1;have Zx:=Ep a 33 undef Sj.out.2.1;rotate_left;have ZZ:=Ep a 34 (.bool false) Sj.out.1;rotate_left;have Xw:=Ep a 35 (.bool false) Sj.out.1;have XX:=Ep a 38 undef Sj.out.2.1;rotate_left;have XY:=Ep a 39 (.bool false) Sj.out.1;rotate_left;have YE:=Ep a 40 (.bool false) Sj.out.1;have Z5:=Ep a 43 undef Sj.out.2.1;rotate_left;have YT:=Ep a 44 (.bool false) Sj.out.1;rotate_left
   all_goals(go_step;exact hK _ _ rfl hG Br)
  intro vs w2_ hG hlen hV
  match vs,hlen,hV with
  | [v0,v1,v2,v3,v4,v5,v6,v7,v8,v9,v10,v11,v12,v13,v14,v15,v16,v17,v18,v19,v20,v21,v22,v23,v24,v25,v26,v27],_,hV=>
   obtain rfl:v27=.bool false:=(hV 27 4 v27 rfl rfl);clear hV;simp only[dG,bf7,bf1];simp only[Act.put,bfw,bfu,bfv];have HZ:=Lh (EB.out w2_ false hG (by simp))
   clear hG;go_wp2_with(fail);exact HZ.out
 | true=>
 cases b2 with
 | false=>
  refine bD (λi=>([18,19,20,23,24,25]:List Nat).contains i) (by kernel_rfl) (NoF (NoF (NoF (NoF (NoF [none,none,none]))))) [] (λi_ _ _ v_=>v_=(((Value.pointer (some ⟨ab,1,none⟩))::(Value.int .i64 av)::VQ::(Value.pointer (some ⟨ab,0,none⟩))::(Value.int .i64 n)::(Value.int .i64 M)::(Value.bool true)::(Value.bool true)::(Value.pointer (some ⟨ab,2,none⟩))::(Value.slice ta L tc)::(Value.int .i64 (L:Int))::VQ::([.pointer (some ⟨ab,0,none⟩),.int .i64 n,.int .i64 T,.bool false,.bool false,.bool false,undef,undef,undef,.bool false,.bool false,undef,undef,undef,.bool false,.bool false]:List Value))).getD i_ undef) (λ_ w'=>Bw w2 w') (λw w'=>Bw w w') (λ_ _ _ _ _ _ h=>h) (by kernel_rfl) (by kernel_rfl) (by kernel_rfl) SB.out (λ_=>⟨rfl,rfl,rfl,rfl,rfl,rfl,rfl,rfl,IlA,IlA,IlA,IlA,IlA,IlA,IlA,IlA,rfl,rfl,IlA,IlA,IlA,rfl,rfl,IlA,IlA,IlA,rfl,rfl,trivial⟩) (λi hi=>by have hm:=List.contains_iff_mem.1 hi;simp only[bf2,bf9,or_false]at hm;rcases hm with rfl | rfl | rfl | rfl | rfl | rfl <;> exact⟨rfl,λ_ _=>rfl⟩) ?_ ?_
  ·refine ⟨?_,?_,?_,?_,?_,?_,?_,?_,?_,?_,?_,?_,?_,?_,?_,?_,?_,?_,?_,?_,?_,?_,?_,?_,?_,?_,?_,?_,trivial⟩<;>(first|exact λh=>absurd h (by decide)|intro _ _ a w' hG Si Sj K hK)<;>replace Si:=Lh Si<;>replace Sj:=Lh Sj
   have q3:=FaA Si 3 ab 0;rotate_left;have Vn:=Pa a 18 ab 1 Sj.out.1;obtain⟨⟨d0,d1,d2,d3,d4,d5⟩,f0,f1,f2,f3⟩:=HR.out w' hG;rotate_left
   ·have q2:=FaA Si 2 qb 0;obtain⟨⟨d0,d1,d2,d3,d4,d5⟩,f0,f1,f2,f3⟩:=HR.out w' hG;go_step;exact hK _ _ HV.out.1.symm hG Br
   have q3:=FaA Si 3 ab 0;rotate_left;have VZ:=Pa a 21 ab 0 Sj.out.1;obtain⟨⟨d0,d1,d2,d3,d4,d5⟩,f0,f1,f2,f3⟩:=HR.out w' hG;rotate_left
   ·have Wy:=Ep a 20 VQ Sj.out.1;have q22:=Pi a 22 n Sj.out.2.1;have HS:=Lh (SH.out w');go_step;refine HS.out.mono ?_;rintro e w3 ⟨rfl,hB⟩;exact hK _ _ rfl (Tb hG hB) hB
   ·have VV:=Pi a 19 av Sj.out.1;have Wi:=Pi a 23 M Sj.out.2.1;have HS:=Lh (Ve.out w');go_step;refine HS.out.mono ?_;rintro e w3 ⟨rfl,hw3⟩;subst w3;exact hK _ _ rfl hG Br
   have q24:=Ep a 24 (.bool true) Sj.out.1;rotate_left;have q3:=FaA Si 3 ab 0;rotate_left;have V5:=Pa a 26 ab 2 Sj.out.1;obtain⟨⟨d0,d1,d2,d3,d4,d5⟩,f0,f1,f2,f3⟩:=HR.out w' hG;rotate_left;have Xe:=Ep a 27 (.slice ta L tc) Sj.out.1;rotate_left
   ·have q2:=FaA Si 2 qb 0;obtain⟨⟨d0,d1,d2,d3,d4,d5⟩,f0,f1,f2,f3⟩:=HR.out w' hG;go_step;exact hK _ _ HV.out.1.symm hG Br
   have q3:=FaA Si 3 ab 0;rotate_left;have ZY:=Pa a 30 ab 0 Sj.out.1;obtain⟨⟨d0,d1,d2,d3,d4,d5⟩,f0,f1,f2,f3⟩:=HR.out w' hG;rotate_left
   ·have YC:=Ep a 29 VQ Sj.out.1;have EW:=Pi a 31 n Sj.out.2.1;have HS:=Lh (YG.out w');go_step;refine HS.out.mono ?_;rintro e w3 ⟨rfl,hB⟩;exact hK _ _ rfl (Tb hG hB) hB
   have XW:=Pi a 28 L Sj.out.1;have q32:=Pi a 32 T Sj.out.2.1;have hq:=II.out;rotate_left;have V3:=Ep a 25 (.bool true) Sj.out.1;have Zx:=Ep a 33 (.bool false) Sj.out.2.1;rotate_left;have ZZ:=Ep a 34 (.bool false) Sj.out.1;rotate_left;have Xw:=Ep a 35 (.bool false) Sj.out.1;have XX:=Ep a 38 undef Sj.out.2.1;rotate_left;have XY:=Ep a 39 (.bool false) Sj.out.1;rotate_left;have YE:=Ep a 40 (.bool false) Sj.out.1;have Z5:=Ep a 43 undef Sj.out.2.1;rotate_left;have YT:=Ep a 44 (.bool false) Sj.out.1;rotate_left
   all_goals(go_step;exact hK _ _ rfl hG Br)
  intro vs w2_ hG hlen hV
  match vs,hlen,hV with
  | [v0,v1,v2,v3,v4,v5,v6,v7,v8,v9,v10,v11,v12,v13,v14,v15,v16,v17,v18,v19,v20,v21,v22,v23,v24,v25,v26,v27],_,hV=>
   obtain rfl:v27=.bool false:=(hV 27 4 v27 rfl rfl);clear hV;simp only[dG,bf7,bf1];simp only[Act.put,bfw,bfu,bfv];have HZ:=Lh (EB.out w2_ false hG (by simp))
   clear hG;go_wp2_with(fail);exact HZ.out
 | true=>
 cases b3 with
 | false=>
  refine bD (λi=>([23,24,25]:List Nat).contains i) (by kernel_rfl) (NoF (NoF (NoF (NoF (NoF [none,none,none]))))) [] (λi_ _ _ v_=>v_=(((Value.pointer (some ⟨ab,1,none⟩))::(Value.int .i64 av)::VQ::(Value.pointer (some ⟨ab,0,none⟩))::(Value.int .i64 n)::(Value.int .i64 M)::(Value.bool true)::(Value.bool true)::(Value.pointer (some ⟨ab,2,none⟩))::(Value.slice ta L tc)::(Value.int .i64 (L:Int))::VQ::([.pointer (some ⟨ab,0,none⟩),.int .i64 n,.int .i64 T,.bool true,.bool true,.bool true,.pointer (some ⟨ab,2,none⟩),.slice ta L tc,.bool false,.bool false,.bool false,undef,undef,undef,.bool false,.bool false]:List Value))).getD i_ undef) (λ_ w'=>Bw w2 w') (λw w'=>Bw w w') (λ_ _ _ _ _ _ h=>h) (by kernel_rfl) (by kernel_rfl) (by kernel_rfl) SB.out (λ_=>⟨rfl,rfl,rfl,rfl,rfl,rfl,rfl,rfl,IlA,IlA,IlA,IlA,IlA,IlA,IlA,IlA,rfl,rfl,IlA,IlA,IlA,rfl,rfl,IlA,IlA,IlA,rfl,rfl,trivial⟩) (λi hi=>by have hm:=List.contains_iff_mem.1 hi;simp only[bf2,bf9,or_false]at hm;rcases hm with rfl | rfl | rfl <;> exact⟨rfl,λ_ _=>rfl⟩) ?_ ?_
  ·refine ⟨?_,?_,?_,?_,?_,?_,?_,?_,?_,?_,?_,?_,?_,?_,?_,?_,?_,?_,?_,?_,?_,?_,?_,?_,?_,?_,?_,?_,trivial⟩<;>(first|exact λh=>absurd h (by decide)|intro _ _ a w' hG Si Sj K hK)<;>replace Si:=Lh Si<;>replace Sj:=Lh Sj
   have q3:=FaA Si 3 ab 0;rotate_left;have Vn:=Pa a 18 ab 1 Sj.out.1;obtain⟨⟨d0,d1,d2,d3,d4,d5⟩,f0,f1,f2,f3⟩:=HR.out w' hG;rotate_left
   ·have q2:=FaA Si 2 qb 0;obtain⟨⟨d0,d1,d2,d3,d4,d5⟩,f0,f1,f2,f3⟩:=HR.out w' hG;go_step;exact hK _ _ HV.out.1.symm hG Br
   have q3:=FaA Si 3 ab 0;rotate_left;have VZ:=Pa a 21 ab 0 Sj.out.1;obtain⟨⟨d0,d1,d2,d3,d4,d5⟩,f0,f1,f2,f3⟩:=HR.out w' hG;rotate_left
   ·have Wy:=Ep a 20 VQ Sj.out.1;have q22:=Pi a 22 n Sj.out.2.1;have HS:=Lh (SH.out w');go_step;refine HS.out.mono ?_;rintro e w3 ⟨rfl,hB⟩;exact hK _ _ rfl (Tb hG hB) hB
   ·have VV:=Pi a 19 av Sj.out.1;have Wi:=Pi a 23 M Sj.out.2.1;have HS:=Lh (Ve.out w');go_step;refine HS.out.mono ?_;rintro e w3 ⟨rfl,hw3⟩;subst w3;exact hK _ _ rfl hG Br
   have q24:=Ep a 24 (.bool true) Sj.out.1;rotate_left;have q3:=FaA Si 3 ab 0;rotate_left;have V5:=Pa a 26 ab 2 Sj.out.1;obtain⟨⟨d0,d1,d2,d3,d4,d5⟩,f0,f1,f2,f3⟩:=HR.out w' hG;rotate_left;have Xe:=Ep a 27 (.slice ta L tc) Sj.out.1;rotate_left
   ·have q2:=FaA Si 2 qb 0;obtain⟨⟨d0,d1,d2,d3,d4,d5⟩,f0,f1,f2,f3⟩:=HR.out w' hG;go_step;exact hK _ _ HV.out.1.symm hG Br
   have q3:=FaA Si 3 ab 0;rotate_left;have ZY:=Pa a 30 ab 0 Sj.out.1;obtain⟨⟨d0,d1,d2,d3,d4,d5⟩,f0,f1,f2,f3⟩:=HR.out w' hG;rotate_left
   ·have YC:=Ep a 29 VQ Sj.out.1;have EW:=Pi a 31 n Sj.out.2.1;have HS:=Lh (YG.out w');go_step;refine HS.out.mono ?_;rintro e w3 ⟨rfl,hB⟩;exact hK _ _ rfl (Tb hG hB) hB
   have XW:=Pi a 28 L Sj.out.1;have q32:=Pi a 32 T Sj.out.2.1;have hq:=II.out;rotate_left;have V3:=Ep a 25 (.bool true) Sj.out.1;have Zx:=Ep a 33 (.bool true) Sj.out.2.1;rotate_left;have ZZ:=Ep a 34 (.bool true) Sj.out.1;rotate_left;have q3:=FaA Si 3 ab 0;rotate_left;have YS:=Pa a 36 ab 2 Sj.out.1;obtain⟨⟨d0,d1,d2,d3,d4,d5⟩,f0,f1,f2,f3⟩:=HR.out w' hG;rotate_left
   ·have YD:=Ep a 37 (.slice ta L tc) Sj.out.1;have HS:=Lh (oM.out w' hG);go_step;refine HS.out.mono ?_;rintro e w3 ⟨rfl,hw3⟩;subst w3;exact hK _ _ rfl hG Br
   have Xw:=Ep a 35 (.bool true) Sj.out.1;have XX:=Ep a 38 (.bool false) Sj.out.2.1;rotate_left;have XY:=Ep a 39 (.bool false) Sj.out.1;rotate_left;have YE:=Ep a 40 (.bool false) Sj.out.1;have Z5:=Ep a 43 undef Sj.out.2.1;rotate_left;have YT:=Ep a 44 (.bool false) Sj.out.1;rotate_left
   all_goals(go_step;exact hK _ _ rfl hG Br)
  intro vs w2_ hG hlen hV
  match vs,hlen,hV with
  | [v0,v1,v2,v3,v4,v5,v6,v7,v8,v9,v10,v11,v12,v13,v14,v15,v16,v17,v18,v19,v20,v21,v22,v23,v24,v25,v26,v27],_,hV=>
   obtain rfl:v27=.bool false:=(hV 27 4 v27 rfl rfl);clear hV;simp only[dG,bf7,bf1];simp only[Act.put,bfw,bfu,bfv];have HZ:=Lh (EB.out w2_ false hG (by simp))
   clear hG;go_wp2_with(fail);exact HZ.out
 | true=>
  refine bD (λi=>([]:List Nat).contains i) (by kernel_rfl) (NoF (NoF (NoF (NoF (NoF [none,none,none]))))) [] (λi_ _ _ v_=>v_=(((Value.pointer (some ⟨ab,1,none⟩))::(Value.int .i64 av)::VQ::(Value.pointer (some ⟨ab,0,none⟩))::(Value.int .i64 n)::(Value.int .i64 M)::(Value.bool true)::(Value.bool true)::(Value.pointer (some ⟨ab,2,none⟩))::(Value.slice ta L tc)::(Value.int .i64 (L:Int))::VQ::(Value.pointer (some ⟨ab,0,none⟩))::(Value.int .i64 n)::(Value.int .i64 T)::(Value.bool true)::(Value.bool true)::(Value.bool true)::(Value.pointer (some ⟨ab,2,none⟩))::(Value.slice ta L tc)::(Value.bool true)::(Value.bool true)::(Value.bool true)::VQ::VA::([.bool b4,.bool b4,.bool b4]:List Value))).getD i_ undef) (λ_ w'=>Bw w2 w') (λw w'=>Bw w w') (λ_ _ _ _ _ _ h=>h) (by kernel_rfl) (by kernel_rfl) (by kernel_rfl) SB.out (λ_=>⟨rfl,rfl,rfl,rfl,rfl,rfl,rfl,rfl,IlA,IlA,IlA,IlA,IlA,IlA,IlA,IlA,rfl,rfl,IlA,IlA,IlA,rfl,rfl,IlA,IlA,IlA,rfl,rfl,trivial⟩) (λ_ h=>by simp at h) ?_ ?_
  ·refine ⟨?_,?_,?_,?_,?_,?_,?_,?_,?_,?_,?_,?_,?_,?_,?_,?_,?_,?_,?_,?_,?_,?_,?_,?_,?_,?_,?_,?_,trivial⟩<;>intro _ _ a w' hG Si Sj K hK<;>replace Si:=Lh Si<;>replace Sj:=Lh Sj
   have q3:=FaA Si 3 ab 0;rotate_left;have Vn:=Pa a 18 ab 1 Sj.out.1;obtain⟨⟨d0,d1,d2,d3,d4,d5⟩,f0,f1,f2,f3⟩:=HR.out w' hG;rotate_left
   ·have q2:=FaA Si 2 qb 0;obtain⟨⟨d0,d1,d2,d3,d4,d5⟩,f0,f1,f2,f3⟩:=HR.out w' hG;go_step;exact hK _ _ HV.out.1.symm hG Br
   have q3:=FaA Si 3 ab 0;rotate_left;have VZ:=Pa a 21 ab 0 Sj.out.1;obtain⟨⟨d0,d1,d2,d3,d4,d5⟩,f0,f1,f2,f3⟩:=HR.out w' hG;rotate_left
   ·have Wy:=Ep a 20 VQ Sj.out.1;have q22:=Pi a 22 n Sj.out.2.1;have HS:=Lh (SH.out w');go_step;refine HS.out.mono ?_;rintro e w3 ⟨rfl,hB⟩;exact hK _ _ rfl (Tb hG hB) hB
   ·have VV:=Pi a 19 av Sj.out.1;have Wi:=Pi a 23 M Sj.out.2.1;have HS:=Lh (Ve.out w');go_step;refine HS.out.mono ?_;rintro e w3 ⟨rfl,hw3⟩;subst w3;exact hK _ _ rfl hG Br
   have q24:=Ep a 24 (.bool true) Sj.out.1;rotate_left;have q3:=FaA Si 3 ab 0;rotate_left;have V5:=Pa a 26 ab 2 Sj.out.1;obtain⟨⟨d0,d1,d2,d3,d4,d5⟩,f0,f1,f2,f3⟩:=HR.out w' hG;rotate_left;have Xe:=Ep a 27 (.slice ta L tc) Sj.out.1;rotate_left
   ·have q2:=FaA Si 2 qb 0;obtain⟨⟨d0,d1,d2,d3,d4,d5⟩,f0,f1,f2,f3⟩:=HR.out w' hG;go_step;exact hK _ _ HV.out.1.symm hG Br
   have q3:=FaA Si 3 ab 0;rotate_left;have ZY:=Pa a 30 ab 0 Sj.out.1;obtain⟨⟨d0,d1,d2,d3,d4,d5⟩,f0,f1,f2,f3⟩:=HR.out w' hG;rotate_left
   ·have YC:=Ep a 29 VQ Sj.out.1;have EW:=Pi a 31 n Sj.out.2.1;have HS:=Lh (YG.out w');go_step;refine HS.out.mono ?_;rintro e w3 ⟨rfl,hB⟩;exact hK _ _ rfl (Tb hG hB) hB
   have XW:=Pi a 28 L Sj.out.1;have q32:=Pi a 32 T Sj.out.2.1;have hq:=II.out;rotate_left;have V3:=Ep a 25 (.bool true) Sj.out.1;have Zx:=Ep a 33 (.bool true) Sj.out.2.1;rotate_left;have ZZ:=Ep a 34 (.bool true) Sj.out.1;rotate_left;have q3:=FaA Si 3 ab 0;rotate_left;have YS:=Pa a 36 ab 2 Sj.out.1;obtain⟨⟨d0,d1,d2,d3,d4,d5⟩,f0,f1,f2,f3⟩:=HR.out w' hG;rotate_left
   ·have YD:=Ep a 37 (.slice ta L tc) Sj.out.1;have HS:=Lh (oM.out w' hG);go_step;refine HS.out.mono ?_;rintro e w3 ⟨rfl,hw3⟩;subst w3;exact hK _ _ rfl hG Br
   have Xw:=Ep a 35 (.bool true) Sj.out.1;have XX:=Ep a 38 (.bool true) Sj.out.2.1;rotate_left;have XY:=Ep a 39 (.bool true) Sj.out.1;rotate_left
   ·have q2:=FaA Si 2 qb 0;obtain⟨⟨d0,d1,d2,d3,d4,d5⟩,f0,f1,f2,f3⟩:=HR.out w' hG;go_step;exact hK _ _ HV.out.1.symm hG Br
   ·have q3:=FaA Si 3 ab 0;obtain⟨⟨d0,d1,d2,d3,d4,d5⟩,f0,f1,f2,f3⟩:=HR.out w' hG;go_step;exact hK _ _ HV.out.2.symm hG Br
   ·have Z0:=Ep a 41 VQ Sj.out.1;have Z4:=Ep a 42 VA Sj.out.2.1;have HS:=Lh (Vi.out w');go_step;refine HS.out.mono ?_;rintro e w3 ⟨rfl,hB⟩;exact hK _ _ rfl (Tb hG hB) hB
   have YE:=Ep a 40 (.bool true) Sj.out.1;have Z5:=Ep a 43 (.bool b4) Sj.out.2.1;rotate_left;have YT:=Ep a 44 (.bool b4) Sj.out.1;rotate_left
   all_goals(go_step;exact hK _ _ rfl hG Br)
  intro vs w2_ hG hlen hV
  match vs,hlen,hV with
  | [v0,v1,v2,v3,v4,v5,v6,v7,v8,v9,v10,v11,v12,v13,v14,v15,v16,v17,v18,v19,v20,v21,v22,v23,v24,v25,v26,v27],_,hV=>
   obtain rfl:v27=.bool b4:=(hV 27 4 v27 rfl rfl);clear hV;simp only[dG,bf7,bf1];simp only[Act.put,bfw,bfu,bfv];have HZ:=Lh (EB.out w2_ b4 hG (by simp))
   clear hG;go_wp2_with(fail);exact HZ.out
theorem bA.one {w:World} {v:Value} {l:List Int}(h:bA w v l):v.oneCell'=true:=by
 obtain⟨a,c,rfl,_⟩:=h;rfl
theorem lU.one {z:Value} {u v:Int}(h:lU z u v):z.oneCell'=true:=by
 obtain⟨p,q,rfl,_⟩:=h;rfl
theorem kN {n a:Int} {tv z:Value}(h1:tv.oneCell'=true)(h2:z.oneCell'=true):(bI n a tv z).all (·.oneCell')=true:=by
 rw[Array.all_eq_true'];intro v hv;simp only[bI,List.mem_toArray,bf2,bf9,or_false]at hv;rcases hv with rfl | rfl | rfl | rfl
 ·rfl
 ·rfl
 ·exact h1
 exact h2
def bS:Value:=.slice none 0 0
def dE:Array Value:=bI 0 0 bS fU
theorem bW.qi {w:World} {b:Nat} {n a:Int} {tv z:Value}(h:bW w b n a tv z)(i:Nat):w.frozen? ⟨b,i,none⟩=false:=by
 unfold bW at h;simp[World.frozen?,h]
theorem bW.set1 {w:World} {b:Nat} {n a:Int} {tv z:Value}(h:bW w b n a tv z)(x:Int):bW (w.setCell ⟨b,1,none⟩ (.int .i64 x)) b n x tv z:=by
 unfold bW at*;rw[setCell_eq_setRow w b 1 _ _ (0,0) _ h];exact setRow_heap w b _ _ _ _ h
theorem bW.set2 {w:World} {b:Nat} {n a:Int} {tv z:Value}(h:bW w b n a tv z)(x:Value):bW (w.setCell ⟨b,2,none⟩ x) b n a x z:=by
 unfold bW at*;rw[setCell_eq_setRow w b 2 _ _ (0,0) _ h];exact setRow_heap w b _ _ _ _ h
theorem bW.Q4 {w:World} {b:Nat} {n a:Int} {tv z:Value}(h:bW w b n a tv z)(x:Value):bW (w.setCell ⟨b,3,none⟩ x) b n a tv x:=by
 unfold bW at*;rw[setCell_eq_setRow w b 3 _ _ (0,0) _ h];exact setRow_heap w b _ _ _ _ h
theorem bW.reset {w:World} {b:Nat} {n a:Int} {tv z:Value}(h:bW w b n a tv z)(n' a':Int)(tv' z':Value):bW (w.setRow b (bI n' a' tv' z')) b n' a' tv' z':=setRow_heap w b _ _ _ _ h
theorem bW.grown {w w':World} {b:Nat} {n a:Int} {tv z:Value} {row:Option Nat}(h:bW w b n a tv z)(hg:w.grownBy w' row)(hne:some b≠row):bW w' b n a tv z:=(hg.block b h.lt hne).trans h
theorem bG {w:World} {B b:Nat} {w':World}(hg:w.grownBy w' (some b))(h:B<=b)(hB:B<=w.heap.size):Below B w w':=
 ⟨hg.os,hg.tape,hg.output,hg.size,λk hk=>hg.block k (by omega) (by simp;omega)⟩
theorem wm(w:World)(q:bz)(n a:Int)(tv z:Value)(n' a':Int)(tv' z':Value):
  let W:=((w.alloc (.cells q.cells 23)).alloc (.cells (bI n a tv z) 53)).alloc (.cells (bI n' a' tv' z') 53)
  dn W w.heap.size q/\bW W (w.heap.size+1) n a tv z/\bW W (w.heap.size+2) n' a' tv' z'/\Bw w W/\W.heap.size=w.heap.size+3:=by
 intro W;obtain⟨k1,k2,k3⟩:=qK w q n a tv z;have hs:((w.alloc (.cells q.cells 23)).alloc (.cells (bI n a tv z) 53)).heap.size=w.heap.size+2:=by rw[bq,bq]
 have k4:=(Below.refl _ ((w.alloc (.cells q.cells 23)).alloc (.cells (bI n a tv z) 53))).alloc (bfx _) (.cells (bI n' a' tv' z') 53);refine⟨k1.below k4,k2.below k4,?_,Tb k3 k4,by show(World.alloc _ _).heap.size=_;rw[bq,hs]⟩
 rw[<-hs];exact bg5 _ _
def r9(agg n1 a1 n2 a2:Int):Int:=if n1=0 then a2 else if n2=0 then a1 else if agg=3 then min a1 a2 else max a1 a2
theorem Lm(w:World)(q:bz)(n1 a1:Int)(Sk z1:Value)(n2 a2:Int)(Sq z2:Value):
  Calls prog 142 #[.agg q.cells,.agg (bI n1 a1 Sk z1),.agg (bI n2 a2 Sq z2)] w (bE w (.int .i64 (r9 q.agg n1 a1 n2 a2))):=by
 obtain⟨r,hr⟩:=Nm (r9 q.agg n1 a1 n2 a2);rw[<-hr];obtain⟨w1,hw1⟩:=Nm (((w.alloc (.cells q.cells 23)).alloc (.cells (bI n1 a1 Sk z1) 53)).alloc (.cells (bI n2 a2 Sq z2) 53));obtain⟨qb,Sm⟩:=Nm (w.heap.size);obtain⟨b1,hb1⟩:=Nm (w.heap.size+1);obtain⟨b2,hb2⟩:=Nm (w.heap.size+2);have H1:Hid (dn w1 qb q/\bW w1 b1 n1 a1 Sk z1/\bW w1 b2 n2 a2 Sq z2/\Bw w w1/\w1.heap.size=w.heap.size+3):=by rw[hw1,Sm,hb1,hb2];exact Lh (wm w q n1 a1 Sk z1 n2 a2 Sq z2)
 have hs1:(w.alloc (.cells q.cells 23)).heap.size=w.heap.size+1:=bq w _;have hs2:((w.alloc (.cells q.cells 23)).alloc (.cells (bI n1 a1 Sk z1) 53)).heap.size=w.heap.size+2:=by rw[bq,bq]
 obtain⟨kind,size,slide,late,agg,k⟩:=q;unfold bz.cells at hw1 hs1 hs2 ⊢;unfold bI at hw1 hs2 ⊢;simp only at hw1 hr hs1 hs2;obtain⟨d0,d1,d2,d3,d4,d5⟩:=H1.out.1.d6;obtain⟨f0,f1,f2,f3⟩:=H1.out.2.1.d4;obtain⟨g0,g1,g2,g3⟩:=H1.out.2.2.1.d4;simp only at d0 d1 d2 d3 d4 d5;unfold r9 at hr;by_cases h1:n1=0
 ·subst h1;obtain rfl:r=a2:=by rw[hr,if_pos rfl]
  clear hr;go_enter func142,ntmps142;go_upto_region 1 with(fail);rw[<-hw1,<-hb2,<-hb1,<-Sm];clear hw1 Sm hb1 hb2 hs1 hs2;go_wp2_with(fail);go_ret;exact⟨rfl,H1.out.2.2.2.1⟩
 have e1:(n1==0)=false:=by simpa using h1
 rw[if_neg h1]at hr;clear h1;by_cases h2:n2=0
 ·subst h2;obtain rfl:r=a1:=by rw[hr,if_pos rfl]
  clear hr;go_enter func142,ntmps142;go_upto_region 1 with(fail);rw[<-hw1,<-hb2,<-hb1,<-Sm];clear hw1 Sm hb1 hb2 hs1 hs2;go_wp2_with(fail);go_ret;exact⟨rfl,H1.out.2.2.2.1⟩
 have e2:(n2==0)=false:=by simpa using h2
 rw[if_neg h2]at hr;clear h2;by_cases h3:agg=3
 ·subst h3;rw[if_pos rfl]at hr;have e4:(if a2<a1 then a2 else a1)=r:=by rw[hr];split <;> omega
  clear hr;go_enter func142,ntmps142;go_upto_region 1 with(fail);rw[<-hw1,<-hb2,<-hb1,<-Sm];clear hw1 Sm hb1 hb2 hs1 hs2;go_wp2_with(fail);go_ret;exact⟨rfl,H1.out.2.2.2.1⟩
 have e3:(agg==3)=false:=by simpa using h3
 rw[if_neg h3]at hr;clear h3;have e4:(if a1<a2 then a2 else a1)=r:=by rw[hr];split <;> omega
 clear hr;go_enter func142,ntmps142;go_upto_region 1 with(fail);rw[<-hw1,<-hb2,<-hb1,<-Sm];clear hw1 Sm hb1 hb2 hs1 hs2;go_wp2_with(fail);go_ret;exact⟨rfl,H1.out.2.2.2.1⟩
def vk(s n:Int):Int:=s / n
theorem Ll(w:World)(s n:Int)(hs: -4398046511104<=s/\s<=4398046511104)(hn:0<n/\n<=1073741824):Calls prog 33 #[.int .i64 s,.int .i64 n] w (λe w'=>e=.returned (.int .i64 (vk s n))/\w'=w):=by
 obtain⟨r,hr⟩:=Nm (vk s n);rw[<-hr];unfold vk at hr;obtain⟨t,ht⟩:=Nm (Int.tmod s n);obtain⟨d,hd⟩:=Nm (Int.tdiv s n);have hmul:n*d+t=s:=by rw[ht,hd];exact Int.mul_tdiv_add_tmod s n
 have htb: -n<t/\t<n/\(0<=s->0<=t)/\(s<=0->t<=0):=by
  rw[ht];refine⟨?_,Int.tmod_lt_of_pos s hn.1,λh=>Int.tmod_nonneg n h,λh=>?_⟩
  ·have:=Int.tmod_lt_of_pos (-s) hn.1;rw[Int.neg_tmod]at this;omega
  have:=Int.tmod_nonneg n (show 0<= -s by omega)
  rw[Int.neg_tmod]at this;omega
 have hn0:¬n=0:=by omega
 have hr2:r=if t<0 then d-1 else d:=by
  rw[hr]
  split
  ·rename_i h;refine Int.ediv_eq_iff_of_pos hn.1 |>.2 ?_
   have e:n*(d-1)=n*d-n:=by rw[Int.mul_sub,Int.mul_one]
   have e2:(d-1)*n=n*d-n:=by rw[Int.mul_comm];exact e
   constructor
   ·rw[e2];omega
   rw[e2];omega
  rename_i h;refine Int.ediv_eq_iff_of_pos hn.1 |>.2 ?_
  constructor
  ·rw[Int.mul_comm];omega
  rw[Int.mul_comm];omega
 have Xt:Int.tmod s n=t:=ht.symm;have htd:Int.tdiv s n=d:=hd.symm;have iZ: -4398046511104<=d/\d<=4398046511104:=by
  have h1:d.natAbs<=s.natAbs:=by rw[hd];exact Int.natAbs_tdiv_le_natAbs s n
  omega
 have hw1:IntKind.i64.wrap d=d:=IntWalk.i64_in _ (by omega)
 have hw2:IntKind.i64.wrap (d-1)=d-1:=IntWalk.i64_in _ (by omega)
 clear ht hd hmul htb iZ hr hs hn;by_cases h:t<0
 ·rw[if_pos h]at hr2;subst hr2;go_enter func33,ntmps33;go_wp2_with(fail);go_ret;exact⟨rfl,rfl⟩
 rw[if_neg h]at hr2;subst hr2;have e1:decide (t<0)=false:=bfq h;clear h;go_enter func33,ntmps33;go_wp2_with(fail);go_ret;exact⟨rfl,rfl⟩
end Go.Proofs.YtjeeghafachebaaGreat
