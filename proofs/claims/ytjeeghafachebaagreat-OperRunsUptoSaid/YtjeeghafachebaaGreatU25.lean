/-
  25.
-/
import Derived.Test.YtjeeghafachebaaGreatU22
import Derived.Deep.CutBlock
set_option maxRecDepth 100000
set_option maxHeartbeats 4000000
namespace Go.Proofs.YtjeeghafachebaaGreat
open Go Go.RowKit Go.Proofs.Tryz
theorem GG(out:List bg)(x:bg):(wM out x).length=out.length+1:=by
 rw[(Df out x).length_eq,bgy]
def mF(l:List bg)(j:Nat):List bg:=(l.take j).foldl wM []
theorem yZ {l:List bg} {j:Nat} {x:bg}(h:l[j]? =some x):mF l (j+1)=wM (mF l j) x:=by
 rw[mF,List.take_add_one,h,List.foldl_append];rfl
theorem vz {l:List bg}:∀{j:Nat},j<=l.length->(mF l j).length=j
 | 0,_=>rfl
 | j+1,h=>by
  rw[yZ (bfs h),GG,vz (Nat.le_of_succ_le h)]
theorem Kq(l:List bg):mF l l.length=jG l:=by
 rw[mF,bgs];rfl
def Rp(w:World)(l:List bg)(v i:Value)(wr:World):Prop:=∃j:Nat,j<=l.length/\i=.int .i64 (j:Int)/\cK wr w.heap.size v (mF l j)/\Bw w wr
def Rl(w:World)(x:bg)(out:List bg)(i:Value)(wr:World):Prop:=∃k:Nat,k<=out.length/\i=.int .i64 (k:Int)/\qd x out k=qd x out out.length/\Bw w wr
theorem FH(w:World)(sa:Option Addr)(sc:Nat)(l:List bg)(hA:dF w sa l)(hn:l.length<=300000):
  Calls prog 113 #[.slice sa l.length sc] w (jU w (jG l)):=by
 obtain⟨n,hN⟩:=Nm (l.length);obtain⟨P,hP⟩:=Nm (jU w (jG l));rw[<-hP,<-hN];have HN:Hid (n=l.length/\n<=300000):=Lh ⟨hN,by omega⟩
 have Tx:n<=300000:=by omega
 have HA:=Lh hA;have Sl:Hid (∀wz v,cK wz w.heap.size v (mF l n)->Bw w wz->P (.returned v) wz):=Lh (λwz v h hB=>by
  rw[hN,Kq]at h;rw[hP];exact⟨v,rfl,h,hB⟩)
 clear hN hA hn hP;go_enter func113,ntmps113;go_wp2_with(fail);go_loopw[3,10] (Rp w l) (λ_ i _=>n-(intOf i).toNat)
 case atStart=>exact⟨0,bgi _,rfl,cK.nil _ _,Br⟩
 case round=>
  obtain⟨j,hj,rfl,hO,hB⟩:=hrel;rw[<-HN.out.1]at hj;obtain⟨oa,oc,rfl,hcap,hW⟩:=hO.form;have hlen:(mF l j).length=j:=vz (by have:=HN.out.1;omega)
  have HO:=Lh (bfy hO (bfy hB (bfy hW (bfy hlen hcap))));rw[hlen];clear hO hB hW hcap hlen;by_cases hlt:j<n
  ·have hi0:(0:Int)<=(j:Int)/\(j:Int)<(n:Int):=by omega
   obtain⟨x,pa,po,hx,hsa,c0,c1,c2⟩:=(HA.out.below HO.out.2.1).get (t:=j) (by rw[<-HN.out.1];exact hlt)
   subst hsa;have Ti:=Lh (bfy hx hlt);obtain⟨xk,xl,xh⟩:=x;simp only at c0 c1 c2;clear hx hj;go_upto_region 4 with(fail);refine bg4 ?_
   iterate 9 go_step
   refine bg6 rfl _ _ _ rfl wr.heap.size (bg.mk xk xl xh).cells rfl rfl 47 bX.cells (bg5 wr _) dh rfl (dH _) ?_;obtain⟨W1,hwx⟩:=Nm ((wr.alloc (Obj.cells #[.string ⟨#[]⟩,.int .i64 0,.int .i64 0] 47)).setRow wr.heap.size (bg.mk xk xl xh).cells);obtain⟨xb,hxb⟩:=Nm (wr.heap.size);have Sn:Hid (bZ W1 xb (bg.mk xk xl xh)/\Bw wr W1):=by
    obtain⟨k1,k2⟩:=dW wr (bg.mk xk xl xh);rw[hwx,hxb];exact Lh ⟨k1,k2⟩
   rw[<-hwx,<-hxb];clear hwx hxb;clear c0 c1 c2;obtain⟨out,Si⟩:=Nm (mF l j);have H1:Hid (bZ W1 xb ⟨xk,xl,xh⟩/\cK W1 w.heap.size (.slice oa j oc) out/\dF W1 oa out/\Bw w W1/\out.length=j/\j<=oc/\mF l (j+1)=wM out ⟨xk,xl,xh⟩):=by
    obtain⟨h1,h2,h3,h4,h5⟩:=HO.out;rw[h4]at h1 h5;rw[Si];exact Lh ⟨Sn.out.1,h1.far Sn.out.2,h3.below Sn.out.2,h2.trans (Sn.out.2.mono h2.size),h4,h5,yZ Ti.out.1⟩
   clear Si Sn HO;go_upto_block 2 with(fail);go_cut[6]from 16 to 29 (λs6 wx=>s6=.int .i64 (qd ⟨xk,xl,xh⟩ out out.length:Int)/\Bw W1 wx)
   case first=>
    go_wp2_with(fail);go_loopw[6] (Rl W1 ⟨xk,xl,xh⟩ out) (λv _=>(intOf v).toNat)
    case atStart=>exact⟨j,by rw[H1.out.2.2.2.2.1];exact bfx _,rfl,by rw[H1.out.2.2.2.2.1],Br⟩
    case round=>
     obtain⟨k,hk,rfl,hpos,hB⟩:=hrel;rw[H1.out.2.2.2.2.1]at hk;have HK:=Lh (bfy hpos (bfy hB hk));have SB:Hid (Bw wr wr.drew):=(Below.refl _ wr).drew;have EF:Hid (∀w',Bw wr w'->D3 w' xb xk xl xh):=Lh (λw' h=>((H1.out.1.below hB).below h).d3);have HZ:Hid (∀w',Bw wr w'->Bw W1 w'):=Lh (λw' h=>Tb hB h);clear hpos hB;by_cases hk0:k=0
     ·subst hk0;have Ya:Hid (0=qd ⟨xk,xl,xh⟩ out out.length):=Lh HK.out.1;rw[show((0:Nat):Int)=0 from rfl];clear hk;go_upto_region 6 with(fail);refine bD (λi=>([3,4,5,6,7,8,9,10]:List Nat).contains i) (by kernel_rfl) (NoF (NoF [none,none])) [] (λi_ _ _ v_=>v_=((([.int .i64 (0:Int),.bool false,.bool false,undef,undef,undef,undef,undef,undef,undef,undef,.bool false]:List Value))).getD i_ undef) (λ_ w'=>Bw wr w') (λw w'=>Bw w w') (λ_ _ _ _ _ _ h=>h) (by kernel_rfl) (by kernel_rfl) (by kernel_rfl) SB.out (λ_=>⟨rfl,rfl,rfl,IlA,IlA,IlA,IlA,IlA,IlA,IlA,IlA,rfl,trivial⟩) (λi hi=>by have hm:=List.contains_iff_mem.1 hi;simp only[bf2,bf9,or_false]at hm;rcases hm with rfl | rfl | rfl | rfl | rfl | rfl | rfl | rfl <;> exact⟨rfl,λ_ _=>rfl⟩) ?_ ?_
      ·refine ⟨?_,?_,?_,?_,?_,?_,?_,?_,?_,?_,?_,?_,trivial⟩<;>(first|exact λh=>absurd h (by decide)|intro _ k a w' hG Si Sj K hK)<;>replace Si:=Lh Si<;>replace Sj:=Lh Sj
       have q6:=FiA Si 6 0;rotate_left;have q16:=Pi a 16 0 Sj.out.1;rotate_left;have Wx:=Ep a 17 (.bool false) Sj.out.1;rotate_left;have Vn:=Ep a 18 (.bool false) Sj.out.1;have V5:=Ep a 26 undef Sj.out.2.1;rotate_left
       all_goals(go_step;exact hK _ _ rfl hG Br)
      intro vs w2 hG hlen hV
      match vs,hlen,hV with
      | [v0,v1,v2,v3,v4,v5,v6,v7,v8,v9,v10,v11],_,hV=>
       obtain rfl:v11=.bool false:=(hV 11 27 v11 rfl rfl);clear hV;simp only[dG,bf7,bf1];simp only[Act.put,bfw,bfu,bfv];have Tw:=Lh (HZ.out w2 hG);clear hG;go_wp2_with(fail);go_meet;exact⟨by rw[<-Ya.out];rfl,Tw.out⟩
     obtain⟨m,rfl⟩:∃m,k=m+1:=⟨k - 1,by omega⟩
     obtain⟨y,qa,qo,hy,hqa,_⟩:=H1.out.2.2.1.get (t:=m) (by rw[H1.out.2.2.2.2.1];omega)
     subst hqa;obtain⟨VX,Vw⟩:=Nm (Value.agg (bg.mk xk xl xh).cells);obtain⟨VP,OH⟩:=Nm (Value.agg y.cells);obtain⟨p,hp⟩:=Nm (gG ⟨xk,xl,xh⟩ y);have V6:Hid (∀w',Calls prog 73 #[VX,VP] w' (bE w' (.int .i64 p))):=by
      rw[Vw,OH,hp];exact Lh (λw'=>pO w' ⟨xk,xl,xh⟩ y)
     have HY:Hid (∀w',Bw wr w'->w'.cell? ⟨qa,qo+m*3,none⟩=some (Sv y.key)/\w'.cell? ⟨qa,qo+m*3+1,none⟩=some (.int .i64 y.lo)/\w'.cell? ⟨qa,qo+m*3+2,none⟩=some (.int .i64 y.hi)):=by
      refine Lh (λw' h=>?_);obtain⟨x',b',o',hx',ha',d⟩:=(H1.out.2.2.1.below (HZ.out w' h)).get (t:=m) (by rw[H1.out.2.2.2.2.1];omega)
      cases ha'
      rw[hy]at hx';cases hx'
      exact d
     have Ye:Hid (qd ⟨xk,xl,xh⟩ out (m+1)=if p<0 then qd ⟨xk,xl,xh⟩ out m else m+1):=by
      rw[hp,qd,show out.getD m bX=y from fF hy];exact Lh rfl
     obtain⟨yk,yl,yh⟩:=y;have HV:=Lh (bfy Vw OH);have Yb:Hid ((0:Int)<((m+1:Nat):Int)):=Lh (by omega)
     have YY:Hid (((m+1:Nat):Int)-1=(m:Int)/\(0:Int)<=((m+1:Nat):Int)/\((m+1:Nat):Int)<=1000000):=Lh (by omega)
     have HI1:Hid ((0:Int)<=(m:Int)/\(m:Int)<(j:Int)):=Lh (by omega)
     clear hy hk0 Vw OH hp hk;by_cases hp0:p<0
     ·have Tz:Hid (p<0):=Lh hp0;have HRz:Hid (∀w',Bw wr w'->Rl W1 ⟨xk,xl,xh⟩ out (.int .i64 (m:Int)) w'):=Lh (λw' h=>⟨m,by have:=HK.out.2.2;rw[H1.out.2.2.2.2.1];omega,rfl,by
       have h1:=Ye.out;rw[if_pos Tz.out]at h1;rw[<-h1];exact HK.out.1,HZ.out w' h⟩)
      clear hp0;go_upto_region 6 with(fail);refine bD (λi=>([]:List Nat).contains i) (by kernel_rfl) (NoF (NoF [none,none])) [] (λi_ _ _ v_=>v_=(((Value.int .i64 (((m+1:Nat)):Int))::(Value.bool true)::(Value.bool true)::VX::(Value.slice (some ⟨qa,qo,none⟩) j oc)::(Value.int .i64 (((m+1:Nat)):Int))::(Value.int .i64 (m:Int))::(Value.pointer (some ⟨qa,qo+m*3,none⟩))::VP::([.int .i64 p,.bool true,.bool true]:List Value))).getD i_ undef) (λ_ w'=>Bw wr w') (λw w'=>Bw w w') (λ_ _ _ _ _ _ h=>h) (by kernel_rfl) (by kernel_rfl) (by kernel_rfl) SB.out (λ_=>⟨rfl,rfl,rfl,IlA,IlA,IlA,IlA,IlA,IlA,IlA,IlA,rfl,trivial⟩) (λ_ h=>by simp at h) ?_ ?_
      ·refine ⟨?_,?_,?_,?_,?_,?_,?_,?_,?_,?_,?_,?_,trivial⟩<;>intro _ k a w' hG Si Sj K hK<;>replace Si:=Lh Si<;>replace Sj:=Lh Sj
       have q6:=FoA Si 6 (.int .i64 (((m+1:Nat)):Int));rotate_left;have q16:=Ep a 16 (.int .i64 (((m+1:Nat)):Int)) Sj.out.1;have hgt:=Yb.out;rotate_left;have Wx:=Ep a 17 (.bool true) Sj.out.1;rotate_left
       ·have q5:=FaA Si 5 xb 0;obtain⟨d0,d1,d2⟩:=EF.out w' hG;go_step;exact hK _ _ HV.out.1.symm hG Br
       have q3:=FoA Si 3 (.slice (some ⟨qa,qo,none⟩) j oc);rotate_left;have q6:=FoA Si 6 (.int .i64 (((m+1:Nat)):Int));rotate_left;have VZ:=Ep a 21 (.int .i64 (((m+1:Nat)):Int)) Sj.out.1;have him:=YY.out;rotate_left;have Wy:=Ep a 20 (.slice (some ⟨qa,qo,none⟩) j oc) Sj.out.1;have q22:=Pi a 22 m Sj.out.2.1;have hi0:=HI1.out;rotate_left
       ·have Wi:=Ep a 23 (.pointer (some ⟨qa,qo+m*3,none⟩)) Sj.out.1;obtain⟨d0,d1,d2⟩:=HY.out w' hG;go_step;exact hK _ _ HV.out.2.symm hG Br
       ·have VV:=Ep a 19 VX Sj.out.1;have q24:=Ep a 24 VP Sj.out.2.1;have HS:=Lh (V6.out w');go_step;refine HS.out.mono ?_;rintro e w3 ⟨rfl,hB⟩;exact hK _ _ rfl (Tb hG hB) hB
       have V3:=Pi a 25 p Sj.out.1;have hp:=Tz.out;rotate_left;have Vn:=Ep a 18 (.bool true) Sj.out.1;have V5:=Ep a 26 (.bool true) Sj.out.2.1;rotate_left
       all_goals(go_step;exact hK _ _ rfl hG Br)
      intro vs w2 hG hlen hV
      match vs,hlen,hV with
      | [v0,v1,v2,v3,v4,v5,v6,v7,v8,v9,v10,v11],_,hV=>
       obtain rfl:v11=.bool true:=(hV 11 27 v11 rfl rfl);clear hV;simp only[dG,bf7,bf1];simp only[Act.put,bfw,bfu,bfv];have Tw:=Lh (HRz.out w2 hG);have him:=YY.out;clear hG;go_wp2_with(fail);go_roundw
       case rel=>exact Tw.out
       case measure=>simp[intOf]
     have Tz:Hid (decide (p<0)=false):=Lh (bfq hp0);have Ya:Hid (m+1=qd ⟨xk,xl,xh⟩ out out.length):=by
      have h1:=Ye.out;rw[if_neg hp0]at h1;rw[<-h1];exact Lh HK.out.1
     clear hp0;go_upto_region 6 with(fail);refine bD (λi=>([]:List Nat).contains i) (by kernel_rfl) (NoF (NoF [none,none])) [] (λi_ _ _ v_=>v_=(((Value.int .i64 (((m+1:Nat)):Int))::(Value.bool true)::(Value.bool true)::VX::(Value.slice (some ⟨qa,qo,none⟩) j oc)::(Value.int .i64 (((m+1:Nat)):Int))::(Value.int .i64 (m:Int))::(Value.pointer (some ⟨qa,qo+m*3,none⟩))::VP::([.int .i64 p,.bool false,.bool false]:List Value))).getD i_ undef) (λ_ w'=>Bw wr w') (λw w'=>Bw w w') (λ_ _ _ _ _ _ h=>h) (by kernel_rfl) (by kernel_rfl) (by kernel_rfl) SB.out (λ_=>⟨rfl,rfl,rfl,IlA,IlA,IlA,IlA,IlA,IlA,IlA,IlA,rfl,trivial⟩) (λ_ h=>by simp at h) ?_ ?_
     ·refine ⟨?_,?_,?_,?_,?_,?_,?_,?_,?_,?_,?_,?_,trivial⟩<;>intro _ k a w' hG Si Sj K hK<;>replace Si:=Lh Si<;>replace Sj:=Lh Sj
      have q6:=FoA Si 6 (.int .i64 (((m+1:Nat)):Int));rotate_left;have q16:=Ep a 16 (.int .i64 (((m+1:Nat)):Int)) Sj.out.1;have hgt:=Yb.out;rotate_left;have Wx:=Ep a 17 (.bool true) Sj.out.1;rotate_left
      ·have q5:=FaA Si 5 xb 0;obtain⟨d0,d1,d2⟩:=EF.out w' hG;go_step;exact hK _ _ HV.out.1.symm hG Br
      have q3:=FoA Si 3 (.slice (some ⟨qa,qo,none⟩) j oc);rotate_left;have q6:=FoA Si 6 (.int .i64 (((m+1:Nat)):Int));rotate_left;have VZ:=Ep a 21 (.int .i64 (((m+1:Nat)):Int)) Sj.out.1;have him:=YY.out;rotate_left;have Wy:=Ep a 20 (.slice (some ⟨qa,qo,none⟩) j oc) Sj.out.1;have q22:=Pi a 22 m Sj.out.2.1;have hi0:=HI1.out;rotate_left
      ·have Wi:=Ep a 23 (.pointer (some ⟨qa,qo+m*3,none⟩)) Sj.out.1;obtain⟨d0,d1,d2⟩:=HY.out w' hG;go_step;exact hK _ _ HV.out.2.symm hG Br
      ·have VV:=Ep a 19 VX Sj.out.1;have q24:=Ep a 24 VP Sj.out.2.1;have HS:=Lh (V6.out w');go_step;refine HS.out.mono ?_;rintro e w3 ⟨rfl,hB⟩;exact hK _ _ rfl (Tb hG hB) hB
      have V3:=Pi a 25 p Sj.out.1;have hp:=Tz.out;rotate_left;have Vn:=Ep a 18 (.bool true) Sj.out.1;have V5:=Ep a 26 (.bool false) Sj.out.2.1;rotate_left
      all_goals(go_step;exact hK _ _ rfl hG Br)
     intro vs w2 hG hlen hV
     match vs,hlen,hV with
     | [v0,v1,v2,v3,v4,v5,v6,v7,v8,v9,v10,v11],_,hV=>
      obtain rfl:v11=.bool false:=(hV 11 27 v11 rfl rfl);clear hV;simp only[dG,bf7,bf1];simp only[Act.put,bfw,bfu,bfv];have Tw:=Lh (HZ.out w2 hG);clear hG;go_wp2_with(fail);go_meet;exact⟨by rw[<-Ya.out];exact congrArg _ (by omega),Tw.out⟩
   case rest=>
   obtain⟨rfl,ZL⟩:=hcut;obtain⟨w6,SN⟩:=Nm wc;subst wc;obtain⟨p,hp⟩:=Nm (qd ⟨xk,xl,xh⟩ out out.length);rw[<-hp];have hpl:p<=j:=by rw[hp,<-H1.out.2.2.2.2.1];exact Fx _ _ _
   obtain⟨ra,hra,hRa⟩:=FL w6 oa out oc p (H1.out.2.2.1.below ZL) (by rw[H1.out.2.2.2.2.1];exact hpl) (by rw[H1.out.2.2.2.2.1];exact H1.out.2.2.2.2.2.1)
   rw[H1.out.2.2.2.2.1]at hra;have U8:Hid ((∀w,(Instr.slice 84 (.slice oa j oc) (some (.int .i64 (p:Int))) none none).run prog w=.ok (.slice ra (j-p) (oc-p)) w)/\(∀w,(Instr.slice 84 (.slice oa j oc) none (some (.int .i64 (p:Int))) none).run prog w=.ok (.slice oa p oc) w)):=
    Lh ⟨hra,λw=>xx w oa j oc p (by have:=H1.out.2.2.2.2.2.1;omega)⟩
   have H6:Hid (bZ w6 xb ⟨xk,xl,xh⟩/\dF w6 oa (out.take p)/\dF w6 ra (out.drop p)/\Bw w w6/\out.length=j/\p<=j/\mF l (j+1)=out.take p++[⟨xk,xl,xh⟩]++out.drop p):=by
    obtain⟨h1,h2,h3,h4,h5,h6,h7⟩:=H1.out;refine Lh ⟨h1.below ZL,(h3.below ZL).take p,hRa,Tb h4 ZL,h5,hpl,?_⟩;rw[h7,wM,<-hp]
   clear hra hRa hp H1 ZL;have hsl:=U8.out.2;go_upto_region 8 with(fail);refine bg4 ?_
   iterate 12 go_step
   have B0:Bw w6 (w6.alloc (.cells #[] 47)):=(Below.refl _ w6).alloc (bfx _) _;have ZE:Hid (cK (w6.alloc (.cells #[] 47)) w6.heap.size (.slice (some ⟨w6.heap.size,0,none⟩) 0 0) []/\dF (w6.alloc (.cells #[] 47)) oa (out.take p)/\w6.heap.size<=(w6.alloc (.cells #[] 47)).heap.size/\(out.take p).length=p):=
    Lh ⟨cK.P8 w6 _ (bfx _),H6.out.2.1.below B0,B0.size,by rw[bga,H6.out.2.2.2.2.1];have:=H6.out.2.2.2.2.2.1;omega⟩
   refine kL rfl (.tmp 30) (.tmp 33) rfl w6.heap.size (.slice (some ⟨w6.heap.size,0,none⟩) 0 0) [] (out.take p) rfl ZE.out.1 oa oc p ZE.out.2.2.2.symm rfl ZE.out.2.1 (by rw[ZE.out.2.2.2];simp;omega) ZE.out.2.2.1 ?_
   intro v1 w7 g1 g2 g3;rw[List.nil_append]at g1;obtain⟨va,vc,rfl,_,_⟩:=g1.form;have H7:Hid (cK w7 w6.heap.size (.slice va p vc) (out.take p)/\Bw w6 w7):=by
    have h:=B0.trans (cK.below (cK.P8 w6 _ (bfx _)) g2 B0.size);rw[ZE.out.2.2.2]at g1;exact Lh ⟨g1,h⟩
   rw[ZE.out.2.2.2];clear g1 g2 g3 B0 ZE;obtain⟨d0,d1,d2⟩:=(H6.out.1.below H7.out.2).d3;simp only at d0 d1 d2;clear hsl;go_upto_region 9 with(fail);refine bg4 ?_
   iterate 6 go_step
   refine fE rfl (.tmp 36) rfl ⟨xk,xl,xh⟩ rfl ?_;obtain⟨w8,hw8⟩:=Nm (w7.alloc (.cells (bg.mk xk xl xh).cells 47));obtain⟨gb,hgb⟩:=Nm (w7.heap.size);have H8:Hid (cK w8 w6.heap.size (.slice va p vc) (out.take p)/\Bw w6 w8/\(∀j z,(bg.mk xk xl xh).cells[j]? =some z->w8.cell? ⟨gb,j,none⟩=some z)/\w6.heap.size<=w8.heap.size):=by
    have hB:Bw w7 w8:=by rw[hw8];exact(Below.refl _ w7).alloc (bfx _) _
    have h2:=H7.out.2.trans (hB.mono H7.out.2.size);refine Lh ⟨H7.out.1.far hB,h2,λj z hz=>?_,h2.size⟩;rw[hw8,hgb,cell_of_row _ _ _ _ _ _ (bg5 w7 _)];exact hz
   rw[<-hw8,<-hgb];clear hw8 hgb d0 d1 d2;have WQ:Hid ((out.take p).length=p):=Lh (by rw[bga,H6.out.2.2.2.2.1];have:=H6.out.2.2.2.2.2.1;omega)
   refine jZ rfl (.tmp 35) (.tmp 37) rfl w6.heap.size (.slice va p vc) (out.take p) rfl H8.out.1 ⟨xk,xl,xh⟩ gb rfl H8.out.2.2.1 (by rw[WQ.out];omega) H8.out.2.2.2 ?_
   intro v2 w9 g1 g2 g3;obtain⟨vb,vd,rfl,_,_⟩:=g1.form;have HL2:Hid ((out.take p++[bg.mk xk xl xh]).length=p+1/\(out.drop p).length=j-p):=Lh ⟨by rw[bft,WQ.out];rfl,by rw[bgx,H6.out.2.2.2.2.1]⟩
   have H9:Hid (cK w9 w6.heap.size (.slice vb (p+1) vd) (out.take p++[⟨xk,xl,xh⟩])/\Bw w6 w9/\w6.heap.size<=w9.heap.size):=by
    have h:=H8.out.2.1.trans (cK.below H8.out.1 g2 H8.out.2.1.size);rw[HL2.out.1]at g1;exact Lh ⟨g1,h,h.size⟩
   rw[HL2.out.1];clear g1 g2 g3;have hsl:=U8.out.1;go_upto_region 10 with(fail);refine bg4 ?_
   iterate 12 go_step
   refine kL rfl (.tmp 39) (.tmp 42) rfl w6.heap.size (.slice vb (p+1) vd) (out.take p++[⟨xk,xl,xh⟩]) (out.drop p) rfl H9.out.1 ra (oc-p) (j-p) HL2.out.2.symm rfl (H6.out.2.2.1.below H9.out.2.1) (by rw[HL2.out.1,HL2.out.2];omega) H9.out.2.2 ?_
   intro v3 wz g1 g2 g3;have HZ:Hid (Rp w l v3 (.int .i64 ((j:Int)+1)) wz):=by
    have h:=H9.out.2.1.trans (cK.below H9.out.1 g2 H9.out.2.1.size);have h6:=H6.out.2.2.2.1;refine Lh ⟨j+1,by have:=HN.out.1;omega,by go_num,?_,Tb h6 h⟩
    rw[H6.out.2.2.2.2.2.2];exact g1.mono h6.size
   clear g1 g2 g3 hsl;go_wp2_with(fail);go_roundw
   case rel=>exact HZ.out
   case measure=>simp[intOf];omega
  obtain rfl:j=n:=by omega
  have HZ:Hid (P (.returned (.slice oa j oc)) wr):=Sl.out _ _ (by have h:=HO.out.1;rw[HO.out.2.2.2.1]at h;exact h) HO.out.2.1
  clear hlt hj;go_wp2_with(fail);exact HZ.out
def gM(l:List bg)(x:bg)(j:Nat):bg:=(l.take j).foldl (jK x) x
def fP(l:List bg)(x:bg)(j:Nat):List bg:=(l.take j).filter λo=> !dK o x
def fK(l:List bg)(x:bg)(j:Nat):List Nat:=(List.range j).filter λi=>dK (l.getD i bX) x
theorem pF {l:List bg} {x o:bg} {j:Nat}(h:l[j]? =some o):gM l x (j+1)=jK x (gM l x j) o:=by
 rw[gM,List.take_add_one,h,List.foldl_append];rfl
theorem pK {l:List bg} {x o:bg} {j:Nat}(h:l[j]? =some o):fP l x (j+1)=fP l x j++(if dK o x=true then []else [o]):=by
 rw[fP,List.take_add_one,h,List.filter_append]
 congr 1
 cases hj:dK o x <;> simp[hj]
theorem pq {l:List bg} {x o:bg} {j:Nat}(h:l[j]? =some o):fK l x (j+1)=fK l x j++(if dK o x=true then [j]else []):=by
 rw[fK,List.range_succ,List.filter_append]
 congr 1
 have:l.getD j bX=o:=fF h;cases hj:dK o x <;> simp only[List.filter_cons,List.filter_nil,this,hj] <;> rfl
theorem Dp(l:List bg)(x:bg)(j:Nat):(fP l x j).length<=j:=bgn (List.length_filter_le _ _) (by simp;omega)
theorem CZ(l:List bg)(x:bg)(j:Nat):(fK l x j).length<=j:=bgn (List.length_filter_le _ _) (by simp)
theorem Ba(l:List bg)(x:bg):gM l x l.length=became l x:=by rw[gM,bgs];rfl
theorem vL(l:List bg)(x:bg):fP l x l.length=kH l x:=by rw[fP,bgs];rfl
theorem zU(l:List bg)(x:bg):fK l x l.length=lJ l x:=rfl
def sP(w:World)(l:List bg)(x:bg)(g:List Nat)(e:Ending)(w':World):Prop:=
 ∃v u,e=.returned (.tuple #[v,.agg x.cells,u])/\cK w' w.heap.size v l/\nU w' w.heap.size u g/\Bw w w'
def QL(w:World)(B b1 b2 b3:Nat)(l:List bg)(x:bg)(v g i:Value)(wr:World):Prop:=
 ∃j:Nat,j<=l.length/\i=.int .i64 (j:Int)/\lW w B b1 b2 b3 x (gM l x j) v (fP l x j) g (fK l x j) wr
def CO(w:World)(b3 b1 b2:Nat)(X y:bg)(v:Value)(out:List bg)(g:Value)(gv:List Nat)(k:Nat)(w':World):Prop:=
 cond (Nat.ble k 1) (lW w (b3+1) b1 b2 b3 X y v out g gv w') (cond (Nat.ble k 3) (∃v',lW w (b3+1) b1 b2 b3 X y v' (out++[y]) g gv w') (bZ w' b3 y/\bZ w' b2 y/\nU w' (b3+1) g gv/\Bw w w'/\w.heap.size<=b3))
theorem CO.row {w:World} {b3 b1 b2:Nat} {X y:bg} {v:Value} {out:List bg} {g:Value} {gv:List Nat} {k:Nat} {w':World}(h:CO w b3 b1 b2 X y v out g gv k w'):bZ w' b3 y:=by
 unfold CO at h;cases h1:Nat.ble k 1 <;> rw[h1]at h
 ·cases h2:Nat.ble k 3 <;> rw[h2]at h
  ·exact h.1
  obtain⟨v',h⟩:=h;exact h.2.2.2.2.1
 exact h.2.2.2.2.1
theorem K6 {w:World} {B b:Nat} {g:Value} {n:List Nat} {x:bg}(h:nU w B g n)(h':bZ w b x):g.ownBlock=none∨g.ownBlock≠some b:=by
 rcases h.2 with⟨k1,_⟩ | ⟨a,c,cur,k1,_,k2,_⟩
 ·exact .inl (by rw[k1];rfl)
 right
 rw[k1];intro e;simp only[Value.ownBlock,bf5]at e;unfold bZ at h';rw[e,h']at k2;simp only[bf5,Obj.cells.injEq]at k2;exact absurd k2.2.1 (by decide)
theorem Kg(w:World)(sa:Option Addr)(sc:Nat)(l:List bg)(x:bg)(hA:dF w sa l)(hk:∀y∈l,y.key.length<=1000000)(hx:x.key.length<=1000000)(hn:l.length<=900):
  Calls prog 80 #[.slice sa l.length sc,.agg x.cells] w (sP w (mq l x) (became l x) (lJ l x)):=by
 obtain⟨n,hN⟩:=Nm (l.length);obtain⟨P,hP⟩:=Nm (sP w (mq l x) (became l x) (lJ l x));rw[<-hP,<-hN];have HN:Hid (n=l.length/\n<=900):=Lh ⟨hN,by omega⟩
 have Tx:n<=900:=by omega
 have HA:=Lh hA;have HP:=Lh hP;have HK:Hid (∀(i:Nat) (y:bg),l[i]? =some y->y.key.length<=1000000):=Lh (λi y h=>hk y (bf3 h));have HX:=Lh hx;obtain⟨X,hX⟩:=Nm x;obtain⟨w2,hw2⟩:=Nm ((w.alloc (.cells x.cells 47)).alloc (.cells #[.string ⟨#[]⟩,.int .i64 0,.int .i64 0] 47));obtain⟨b1,hb1⟩:=Nm (w.heap.size);obtain⟨b2,hb2⟩:=Nm (w.heap.size+1);have hs1:(w.alloc (.cells x.cells 47)).heap.size=w.heap.size+1:=bq w _;have H2:Hid (bZ w2 b1 x/\bZ w2 b2 bX/\Bw w w2/\w.heap.size=b1/\b2=b1+1/\w2.heap.size=b1+2):=by
  have k1:=(Below.refl _ w).alloc (bfx _) (.cells x.cells 47);have k2:=(Below.refl _ (w.alloc (.cells x.cells 47))).alloc (bfx _) (.cells #[.string ⟨#[]⟩,.int .i64 0,.int .i64 0] 47);refine Lh ⟨?_,?_,?_,hb1.symm,by omega,by rw[hw2,bq,hs1,hb1]⟩
  ·rw[hw2,hb1];exact bZ.below (bg5 w _) k2
  ·rw[hw2,hb2,<-hs1];exact bg5 _ _
  rw[hw2];exact Tb k1 k2
 clear hN hA hn hP hk hx;obtain⟨xk,xl,xh⟩:=x;have SY:Hid (X=⟨xk,xl,xh⟩):=Lh hX;rw[<-hX]at H2 HX HP;unfold bg.cells at hw2 hs1 ⊢;simp only at hw2 hs1;obtain⟨d0,d1,d2⟩:=H2.out.1.d3;rw[SY.out]at d0 d1 d2;simp only at d0 d1 d2;clear hX;go_enter func80,ntmps80;go_upto_region 3 with(fail);rw[<-hw2,<-hb2,<-hb1];clear hw2 hb1 hb2 hs1;refine bg4 ?_
 iterate 6 go_step
 refine bg6 rfl _ _ _ rfl w2.heap.size (bg.mk xk xl xh).cells rfl rfl 47 bX.cells (bg5 w2 _) dh rfl (dH _) ?_;obtain⟨w3,hw3⟩:=Nm ((w2.alloc (Obj.cells #[.string ⟨#[]⟩,.int .i64 0,.int .i64 0] 47)).setRow w2.heap.size (bg.mk xk xl xh).cells);obtain⟨b3,hb3⟩:=Nm (w2.heap.size);have H3:Hid (lW w (b3+1) b1 b2 b3 X X (.slice none 0 0) [] (.slice none 0 0) [] w3):=by
  have k1:bZ w3 b3 ⟨xk,xl,xh⟩:=by rw[hw3,hb3];exact(dW w2 (bg.mk xk xl xh)).1
  have k2:Bw w2 w3:=by rw[hw3];exact(dW w2 (bg.mk xk xl xh)).2
  obtain⟨h1,h2,h4,h5,h6,h7⟩:=H2.out;rw[<-SY.out]at k1;have:=k1.lt;exact Lh ⟨⟨by omega,by omega,by omega,by omega,by omega⟩,Tb h4 k2,h1.below k2,h2.below k2,k1,cK.nil _ _,Own.nil _ _ _⟩
 rw[<-hw3,<-hb3];clear hw3 hb3 d0 d1 d2 H2;go_wp2_with(fail);go_loopw[7,8,15] (QL w (b3+1) b1 b2 b3 l X) (λ_ _ i _=>n-(intOf i).toNat)
 case atStart=>exact⟨0,bgi _,rfl,H3.out⟩
 case round=>
  obtain⟨j,hj,rfl,hT⟩:=hrel;rw[<-HN.out.1]at hj;have HT:=Lh hT;clear hT;obtain⟨v,hv⟩:=Nm u7;subst hv;obtain⟨g,hg⟩:=Nm u8;subst hg;by_cases hlt:j<n
  ·have hi0:(0:Int)<=(j:Int)/\(j:Int)<(n:Int):=by omega
   obtain⟨o,pa,po,ho,hsa,c0,c1,c2⟩:=(HA.out.below HT.out.2.1).get (t:=j) (by rw[<-HN.out.1];exact hlt)
   subst hsa;have HO:=Lh (bfy ho hlt);have Tn:=Lh (HK.out j o ho);obtain⟨ok,ol,oh⟩:=o;simp only at c0 c1 c2;clear ho hj hlt;go_upto_region 6 with(fail);refine bg4 ?_
   iterate 15 go_step
   refine bg6 rfl _ _ _ rfl wr.heap.size (bg.mk ok ol oh).cells rfl rfl 47 bX.cells (bg5 wr _) dh rfl (dH _) ?_;obtain⟨W1,hwx⟩:=Nm ((wr.alloc (Obj.cells #[.string ⟨#[]⟩,.int .i64 0,.int .i64 0] 47)).setRow wr.heap.size (bg.mk ok ol oh).cells);obtain⟨ob,Vm⟩:=Nm (wr.heap.size);have Sn:Hid (bZ W1 ob (bg.mk ok ol oh)/\Bw wr W1):=by
    obtain⟨k1,k2⟩:=dW wr (bg.mk ok ol oh);rw[hwx,Vm];exact Lh ⟨k1,k2⟩
   have Oc:Hid (b3+1<=ob):=Lh (by rw[Vm];exact HT.out.1.2.2.2.2)
   rw[<-hwx,<-Vm];clear hwx Vm;clear c0 c1 c2;have H1:Hid (lW w (b3+1) b1 b2 b3 X (gM l X j) v (fP l X j) g (fK l X j) W1):=Lh (HT.out.below Sn.out.2);clear HT;obtain⟨jb,hjb⟩:=Nm (dK ⟨ok,ol,oh⟩ X);have HJ:Hid (∀w',Calls prog 110 #[.agg #[Sv ok,.int .i64 ol,.int .i64 oh],.agg #[Sv xk,.int .i64 xl,.int .i64 xh]] w' (bE w' (.bool jb))):=by
    rw[hjb,SY.out];exact Lh (λw'=>yU w' ⟨ok,ol,oh⟩ ⟨xk,xl,xh⟩ Tn.out (by have:=HX.out;rw[SY.out]at this;exact this))
   have aV:=Lh hjb;clear hjb;obtain⟨d0,d1,d2⟩:=H1.out.2.2.1.d3;rw[SY.out]at d0 d1 d2;obtain⟨e0,e1,e2⟩:=Sn.out.1.d3;simp only at d0 d1 d2 e0 e1 e2;go_wp2_with(fail);refine(HJ.out W1).mono ?_;rintro e w4 ⟨rfl,hB⟩;have H4:Hid (lW w (b3+1) b1 b2 b3 X (gM l X j) v (fP l X j) g (fK l X j) w4/\bZ w4 ob ⟨ok,ol,oh⟩/\b3+1<=ob):=Lh ⟨H1.out.below hB,Sn.out.1.below hB,Oc.out⟩;clear hB d0 d1 d2 e0 e1 e2;dsimp only
   cases jb with
   | true=>
    have HG:Hid (fK l X (j+1)=fK l X j++[j]/\fP l X (j+1)=fP l X j/\gM l X (j+1)=jK X (gM l X j) ⟨ok,ol,oh⟩):=by
     rw[pq HO.out.1,pK HO.out.1,pF HO.out.1,<-aV.out];exact Lh ⟨rfl,by simp,rfl⟩
    have HH:Hid (jK X (gM l X j) ⟨ok,ol,oh⟩=⟨(gM l X j).key,min (gM l X j).lo ol,max (gM l X j).hi oh⟩):=by
     rw[jK,<-aV.out];exact Lh rfl
    obtain⟨y,hy⟩:=Nm (gM l X j);rw[<-hy]at H4 HG HH;clear hy;obtain⟨yk,yl,yh⟩:=y;simp only at HH;go_upto_region 8 with(fail);refine bg4 ?_
    iterate 9 go_step
    have Oa:Hid ((nK (fK l X j)).length+1<=1000):=Lh (by have h:=CZ l X j;have:=HO.out.2;simp only[nK,bfz];omega)
    have H5:Hid (lW w (b3+1) b1 b2 b3 X ⟨yk,yl,yh⟩ v (fP l X j) g (fK l X j) (w4.alloc (.cells #[.int .i64 (j:Int)] 3))/\Bw w4 (w4.alloc (.cells #[.int .i64 (j:Int)] 3))):=by
     have hB:=(Below.refl _ w4).alloc (bfx _) (.cells #[.int .i64 (j:Int)] 3);exact Lh ⟨H4.out.1.below hB,hB⟩
    refine y9 underlying48 Qw rfl rfl (.tmp 23) (.tmp 25) rfl (b3+1) g (nK (fK l X j)) rfl H5.out.1.2.2.2.2.2.2 (.int .i64 (j:Int)) w4.heap.size rfl (by rw[cell_of_row _ _ _ _ _ _ (bg5 w4 _)];rfl) rfl Oa.out H5.out.1.1.2.2.2.2 (by decide) ?_
    intro g' w5 k1 k2 k3;have H6:Hid (lW w (b3+1) b1 b2 b3 X ⟨yk,yl,yh⟩ v (fP l X j) g' (fK l X (j+1)) w5/\bZ w5 ob ⟨ok,ol,oh⟩):=by
     have k1':nU w5 (b3+1) g' (fK l X (j+1)):=by
      rw[HG.out.1];unfold nU nK;rw[bgl];exact k1
     refine Lh ⟨H5.out.1.Pm k1' k2,(H4.out.2.1.below H5.out.2).grown k2 ?_⟩;intro e;have h6:nU w4 (b3+1) g (fK l X j):=H4.out.1.2.2.2.2.2.2;rcases K6 h6 H4.out.2.1 with q | q
     ·rw[q]at e;cases e
     exact q e.symm
    clear k1 k2 k3;obtain⟨d0,d1,d2⟩:=H6.out.1.2.2.2.2.1.d3;obtain⟨e0,e1,e2⟩:=H6.out.2.d3;simp only at d0 d1 d2 e0 e1 e2;obtain⟨ml,OV⟩:=Nm (min yl ol);obtain⟨mh,OU⟩:=Nm (max yh oh);have e3:(if ol<yl then ol else yl)=ml:=by rw[OV];split <;> omega
    have e4:(if yh<oh then oh else yh)=mh:=by rw[OU];split <;> omega
    have HM:=Lh (bfy OV OU);clear OV OU;go_upto_region 9 with(fail);refine bg4 ?_
    iterate 18 go_step
    refine bU rfl _ (.tmp 32) (.tmp 31) rfl ⟨b3,1,none⟩ (.int .i64 ml) (.int .i64 yl) rfl rfl rfl rfl sizeOf3 d1 (H6.out.1.2.2.2.2.1.qi 1) ?_;obtain⟨w6,SN⟩:=Nm (w5.setCell ⟨b3,1,none⟩ (.int .i64 ml));have H7:Hid (lW w (b3+1) b1 b2 b3 X ⟨yk,ml,yh⟩ v (fP l X j) g' (fK l X (j+1)) w6/\bZ w6 ob ⟨ok,ol,oh⟩):=by
     have hg:w5.grownBy w6 (some b3):=by rw[SN];exact bL _ _ _ _
     exact Lh ⟨H6.out.1.set (by rw[SN];exact H6.out.1.2.2.2.2.1.RD ml) hg,H6.out.2.grown hg (by have:=H4.out.2.2;simp;omega)⟩
    rw[<-SN];clear SN d0 d1 d2 e0 e1 e2;obtain⟨d0,d1,d2⟩:=H7.out.1.2.2.2.2.1.d3;obtain⟨e0,e1,e2⟩:=H7.out.2.d3;simp only at d0 d1 d2 e0 e1 e2;go_upto_region 10 with(fail);refine bg4 ?_
    iterate 18 go_step
    refine bU rfl _ (.tmp 38) (.tmp 37) rfl ⟨b3,2,none⟩ (.int .i64 mh) (.int .i64 yh) rfl rfl rfl rfl sizeOf3 d2 (H7.out.1.2.2.2.2.1.qi 2) ?_;obtain⟨w7,hw7⟩:=Nm (w6.setCell ⟨b3,2,none⟩ (.int .i64 mh));have H8:Hid (QL w (b3+1) b1 b2 b3 l X v g' (.int .i64 ((j:Int)+1)) w7):=by
     have hg:w6.grownBy w7 (some b3):=by rw[hw7];exact bL _ _ _ _
     refine Lh ⟨j+1,by have:=HO.out.2;have:=HN.out.1;omega,by go_num,?_⟩
     rw[HG.out.2.1,HG.out.2.2,HH.out,<-HM.out.1,<-HM.out.2];exact H7.out.1.set (by rw[hw7];exact H7.out.1.2.2.2.2.1.RB mh) hg
    rw[<-hw7];clear hw7 d0 d1 d2 e0 e1 e2 e3 e4;have SX:=Lh HO.out.2;go_wp2_with(fail);go_roundw
    case rel=>exact H8.out
    case measure=>have:=SX.out;simp[intOf];omega
   | false=>
    have HG:Hid (fK l X (j+1)=fK l X j/\fP l X (j+1)=fP l X j++[⟨ok,ol,oh⟩]/\gM l X (j+1)=gM l X j):=by
     rw[pq HO.out.1,pK HO.out.1,pF HO.out.1,jK,<-aV.out];exact Lh ⟨by simp,rfl,rfl⟩
    obtain⟨e0,e1,e2⟩:=H4.out.2.1.d3;simp only at e0 e1 e2;go_upto_region 11 with(fail);refine bg4 ?_
    iterate 6 go_step
    refine fE rfl (.tmp 40) rfl ⟨ok,ol,oh⟩ rfl ?_;obtain⟨w8,hw8⟩:=Nm (w4.alloc (.cells (bg.mk ok ol oh).cells 47));obtain⟨gb,hgb⟩:=Nm (w4.heap.size);have H8:Hid (lW w (b3+1) b1 b2 b3 X (gM l X j) v (fP l X j) g (fK l X j) w8/\(∀j z,(bg.mk ok ol oh).cells[j]? =some z->w8.cell? ⟨gb,j,none⟩=some z)):=by
     have hB:Bw w4 w8:=by rw[hw8];exact(Below.refl _ w4).alloc (bfx _) _
     refine Lh ⟨H4.out.1.below hB,λj z hz=>?_⟩;rw[hw8,hgb,cell_of_row _ _ _ _ _ _ (bg5 w4 _)];exact hz
    rw[<-hw8,<-hgb];clear hw8 hgb e0 e1 e2;refine jZ rfl (.tmp 39) (.tmp 41) rfl (b3+1) v (fP l X j) rfl H8.out.1.2.2.2.2.2.1 ⟨ok,ol,oh⟩ gb rfl H8.out.2 (by have h:=Dp l X j;have:=HO.out.2;omega) H8.out.1.1.2.2.2.2 ?_
    intro v' w9 g1 g2 g3;have H9:Hid (QL w (b3+1) b1 b2 b3 l X v' g (.int .i64 ((j:Int)+1)) w9):=by
     refine Lh ⟨j+1,by have:=HO.out.2;have:=HN.out.1;omega,by go_num,?_⟩
     rw[HG.out.1,HG.out.2.1,HG.out.2.2];exact H8.out.1.GY g1 g2
    clear g1 g2 g3;have SX:=Lh HO.out.2;go_wp2_with(fail);go_roundw
    case rel=>exact H9.out
    case measure=>have:=SX.out;simp[intOf];omega
  obtain rfl:j=n:=by omega
  have WU:Hid (lW w (b3+1) b1 b2 b3 X (became l X) v (kH l X) g (lJ l X) wr):=by
   have h:=HT.out;rw[HN.out.1,Ba,vL,zU]at h;exact Lh h
  obtain⟨out,Si⟩:=Nm (kH l X);obtain⟨y,hy⟩:=Nm (became l X);obtain⟨gv,hgv⟩:=Nm (lJ l X);have TI:Hid (∀wz v4 base,cK wz base v4 (jG (out++[y]))->nU wz (b3+1) g gv->Bw w wz->w.heap.size<=base->w.heap.size<=b3->P (.returned (.tuple #[v4,.agg y.cells,g])) wz):=by
   refine Lh (λwz v4 base h1 h2 h3 h4 h5=>?_);rw[HP.out];refine⟨v4,g,by rw[hy],?_,?_,h3⟩
   ·rw[mq,<-Si,<-hy];exact h1.mono h4
   rw[<-hgv];exact Own.mono h2 (by omega)
  have HoL:Hid (out.length<=j):=by rw[Si,HN.out.1];exact Lh (List.length_filter_le _ _)
  rw[<-Si,<-hy,<-hgv]at WU;clear Si hy hgv HT hlt hj;obtain⟨oa,oc,rfl,hcap,hW⟩:=WU.out.2.2.2.2.2.1.form;obtain⟨m,hm⟩:=Nm (out.length);have Hm:Hid (m=out.length/\m<=900):=Lh ⟨hm,by have:=HoL.out;omega⟩
  rw[<-hm]at WU ⊢;clear hcap hW hm;obtain⟨VY,Ws⟩:=Nm (Value.agg y.cells);have HV:=Lh Ws;have IU:Hid (∀wz v4 base,cK wz base v4 (jG (out++[y]))->nU wz (b3+1) g gv->Bw w wz->w.heap.size<=base->w.heap.size<=b3->P (.returned (.tuple #[v4,VY,g])) wz):=by rw[Ws];exact TI
  clear Ws;have SB:Hid (lW w (b3+1) b1 b2 b3 X y (.slice oa m oc) out g gv wr.drew):=Lh (WU.out.below (Below.refl _ wr).drew);have oV:Hid (∀k w',CO w b3 b1 b2 X y (.slice oa m oc) out g gv k w'->bZ w' b3 y):=Lh (λk w' h=>CO.row h);go_upto_region 13 with(fail);refine bD (λi=>([]:List Nat).contains i) (by kernel_rfl) [none,none,some 0,some 1,some 2,none,none,none,some 3,none] [2,3,4,8] (V4 ((Value.slice oa m oc)::VY::undef::undef::undef::VY::g::undef::undef::g::([]:List Value)) 2 (λk w' v=>k=1->∃gb,v=.slice (some ⟨gb,0,none⟩) 1 1/\∀j z,y.cells[j]? =some z->w'.cell? ⟨gb,j,none⟩=some z) 3 (λk w' v=>k=2->∃a c,v=.slice a (m+1) c/\dF w' a (out++[y])) 4 (λk w' v=>3<=k/\∃base,b3+1<=base/\cK w' base v (jG (out++[y]))) 7 (λk w' v=>3<=k/\∃base,b3+1<=base/\cK w' base v (jG (out++[y])))) (CO w b3 b1 b2 X y (.slice oa m oc) out g gv) (λw w'=>Bw w w') (qm _ (λk w w' v h ha hk=>by obtain⟨gb,h1,h2⟩:=ha hk;exact⟨gb,h1,λj z hz=>(h.cell (block_lt_of_cell (h2 j z hz))).trans (h2 j z hz)⟩) (λk w w' v h ha hk=>by obtain⟨a,c,h1,h2⟩:=ha hk;exact⟨a,c,h1,h2.below h⟩) (λk w w' v h ⟨h1,base,h2,h3⟩=>⟨h1,base,h2,h3.far h⟩) (λk w w' v h ⟨h1,base,h2,h3⟩=>⟨h1,base,h2,h3.far h⟩)) (by kernel_rfl) (by kernel_rfl) (by kernel_rfl) SB.out (λ_=>⟨rfl,rfl,rfl,rfl,rfl,rfl,rfl,rfl,rfl,rfl,trivial⟩) (λ_ h=>by simp at h) ?_ ?_
  ·refine ⟨?_,?_,?_,?_,?_,?_,?_,?_,?_,?_,trivial⟩<;>(first|(intro _ k a w' hG Si Sj K hK;guard_hyp w':World)|intro _ a w' hG Si Sj K hK)<;>replace Si:=Lh Si<;>replace Sj:=Lh Sj
   have q7:=FoA Si 7 (.slice oa m oc);rotate_left
   ·have q9:=FaA Si 9 b3 0;obtain⟨d0,d1,d2⟩:=(oV.out _ _ hG).d3;go_step;exact hK _ _ HV.out.symm hG Br
   ·obtain ⟨p0,_⟩:=Sj.out;have Z6:=(show a.eval (.tmp 45)=VY from p0);clear p0;rw[HV.out]at Z6;refine za (.tmp 45) rfl y Z6 ?_;have hB:Bw w' (w'.alloc (.cells y.cells 47)):=(Below.refl _ w').alloc (bfx _) _;have hG1:lW w (b3+1) b1 b2 b3 X y (.slice oa m oc) out g gv w':=hG;exact hK _ _ (λ_=>⟨w'.heap.size,rfl,λj z hz=>by rw[cell_of_row _ _ _ _ _ _ (bg5 w' _)];exact hz⟩) (hG1.below hB) (jq (.inl rfl) (.inr λu _ hk=>absurd hk (by decide)) (.inr λu h=>absurd h.1 (by decide)) (.inr λu h=>absurd h.1 (by decide)))
   ·obtain ⟨p0,p1,_⟩:=Sj.out;have YT:=(show a.eval (.tmp 44)=.slice oa m oc from p0);obtain⟨gb,hv,hc⟩:=(show(1=1)->(∃gb,a.eval (.tmp 46)=.slice (some ⟨gb,0,none⟩) 1 1/\∀j z,y.cells[j]? =some z->w'.cell? ⟨gb,j,none⟩=some z)from p1) rfl;have Zy:=hv;clear p0 p1 hv;have hG1:lW w (b3+1) b1 b2 b3 X y (.slice oa m oc) out g gv w':=hG;refine KD (.tmp 44) (.tmp 46) rfl (b3+1) (.slice oa m oc) out [y] YT hG1.2.2.2.2.2.1 (some ⟨gb,0,none⟩) 1 1 rfl Zy (dF.one hc) (by have:=Hm.out;simp;omega) hG1.1.2.2.2.2 ?_
    intro v' w3 g1 g2 g3;obtain⟨a',c',rfl,_,hW⟩:=g1.form;exact hK _ _ (λ_=>⟨a',c',by rw[bft,Hm.out.1];rfl,hW⟩) ⟨_,hG1.GY g1 g2⟩ (jq (.inr λu _ hk=>absurd hk (by decide)) (.inl rfl) (.inr λu h=>absurd h.1 (by decide)) (.inr λu h=>absurd h.1 (by decide)))
   ·obtain ⟨p0,_⟩:=Sj.out;obtain⟨a',c',hv,hW⟩:=(show(2=2)->(∃a' c,a.eval (.tmp 47)=.slice a' (m+1) c/\dF w' a' (out++[y]))from p0) rfl;have Zz:=bf hv;have HS:Hid (Calls prog 113 #[.slice a' (m+1) c'] w' (jU w' (jG (out++[y])))):=by
     have h:=FH w' a' c' (out++[y]) hW (by rw[bft,<-Hm.out.1];have:=Hm.out.2;simp;omega)
     rw[bft,<-Hm.out.1]at h;exact Lh h
    obtain⟨v',hG1⟩:=(show ∃v',lW w (b3+1) b1 b2 b3 X y v' (out++[y]) g gv w' from hG);clear p0 hv hG;go_step;refine HS.out.mono ?_;rintro e w3 ⟨v4,rfl,k1,k2⟩;exact hK _ _ ⟨bfx 3,_,hG1.1.2.2.2.2,k1⟩ ⟨v',hG1.below k2⟩ (jq (.inr λu _ hk=>absurd hk (by decide)) (.inr λu _ hk=>absurd hk (by decide)) (.inl rfl) (.inr λu h=>absurd h.1 (by decide)))
   ·have q9:=FaA Si 9 b3 0;obtain⟨d0,d1,d2⟩:=(oV.out _ _ hG).d3;go_step;exact hK _ _ HV.out.symm hG Br
   have q8:=FoA Si 8 g;rotate_left
   ·obtain ⟨p0,_⟩:=Sj.out;unfold Oper.wp;exact hK _ _ p0 hG Br
   ·obtain ⟨p0,_⟩:=Sj.out;have iF:=(show a.eval (.tmp 49)=VY from p0);have q5:=((Si.out 5 rfl).trans (show _=Value.pointer (some ⟨b2,0,none⟩)from rfl));obtain⟨v',hG1⟩:=(show ∃v',lW w (b3+1) b1 b2 b3 X y v' (out++[y]) g gv w' from hG);rw[HV.out]at iF;clear p0 hG;refine tZ (.tmp 5) (.tmp 49) rfl b2 y bX q5 iF hG1.2.2.2.1 ?_;obtain⟨⟨a1,a2,a3,a4,a5⟩,h1,h2,h3,h4,h5,h6⟩:=hG1;have hg:=bC w' b2 y.cells;have hBl:Below w.heap.size w' (w'.setRow b2 y.cells):=⟨hg.os,hg.tape,hg.output,hg.size,λk hk=>hg.block k (by have:=h1.size;omega) (by simp;omega)⟩
    have key:∀u:Value,(3<=3/\∃base,b3+1<=base/\cK w' base u (jG (out++[y])))->(3<=4/\∃base,b3+1<=base/\cK (w'.setRow b2 y.cells) base u (jG (out++[y]))):=λu ⟨_,base,k1,k2⟩=>⟨by decide,base,k1,k2.kept hg (.inr (λe=>by have:=k2.lt e;omega))⟩
    exact hK _ _ rfl ⟨h4.grown hg (by simp;omega),h3.reset y,h6.kept hg (.inr (λe=>by have:=Own.lt h6 e;omega)),h1.trans hBl,by omega⟩ (jq (.inr λu _ hk=>absurd hk (by decide)) (.inr λu _ hk=>absurd hk (by decide)) (.inr key) (.inr key))
   have EX:=Ep a 50 g Sj.out.1;rotate_left
   all_goals(go_step;exact hK _ _ rfl hG Br)
  intro vs w2 hG hlen hV
  match vs,hlen,hV with
  | [v0,v1,v2,v3,v4,v5,v6,v7,v8,v9],_,hV=>
   obtain⟨_,base,hb,ho⟩:=(show 3<=4/\∃base,b3+1<=base/\cK w2 base v7 (jG (out++[y]))from hV 7 4 v7 rfl rfl);obtain rfl:v9=g:=hV 9 6 v9 rfl rfl;have hG1:bZ w2 b3 y/\bZ w2 b2 y/\nU w2 (b3+1) v9 gv/\Bw w w2/\w.heap.size<=b3:=hG;have HZ:=Lh (bfy hG1.2.1 (IU.out w2 v7 base ho hG1.2.2.1 hG1.2.2.2.1 (by have:=hG1.2.2.2.2;omega) hG1.2.2.2.2))
   clear hV hG hG1 ho;simp only[dG,bf7,bf1];simp only[Act.put,bfw,bfu,bfv];go_wp2_with(fail);exact bodyPost_ret (v:=.tuple #[v7,.agg y.cells,v9]) ((jE (s:=4) (p:=5) (u:=6) (ty:=47) rfl _ _ b2 47 y.cells (0,0) _ rfl HZ.out.1 underlying47 rfl dh).trans rfl) rfl (by have h:=HZ.out.2;rw[HV.out]at h;exact h)
def JN:Value->Nat
 | .slice _ n _=>n
 | _=>0
end Go.Proofs.YtjeeghafachebaaGreat
