/-
  22.
-/
import Derived.Test.YtjeeghafachebaaGreatU20
import Derived.Test.YtjeeghafachebaaGreatU17
set_option maxRecDepth 100000
set_option maxHeartbeats 1000000
namespace Go.Proofs.YtjeeghafachebaaGreat
open Go Go.RowKit Go.Proofs.Tryz
def Qd(B0:Nat)(a b c:Int):RL (λw w'=>Bw w w'):=
 ⟨λw v=>∃g,v=.slice (some ⟨g,0,none⟩) 3 3/\B0<=g/\w.heap[g]? =some (.cells #[.int .i64 a,.int .i64 b,.int .i64 c] 3 (0,0)),λ_ _ _ h ⟨g,h1,h2,h3⟩=>⟨g,h1,h2,(h.block _ (Array.getElem?_eq_some_iff.1 h3).1).trans h3⟩⟩
theorem yF(a b c:Int):(∀j<3,(∀i<j,([a,b,c]:List Int).getD i 0=0)->([a,b,c]:List Int).getD j 0≠0->jW a b c=([a,b,c]:List Int).getD j 0)/\((∀i<3,([a,b,c]:List Int).getD i 0=0)->jW a b c=0):=by
 constructor
 ·intro j hj hz hn;obtain rfl | rfl | rfl:j=0∨j=1∨j=2:=by omega
  ·exact if_pos hn
  ·have h0:a=0:=hz 0 (by omega)
   unfold jW;rw[if_neg (by simpa using h0)]
   exact if_pos hn
  have h0:a=0:=hz 0 (by omega)
  have h1:b=0:=hz 1 (by omega)
  unfold jW;rw[if_neg (by simpa using h0),if_neg (by simpa using h1)]
  rfl
 intro hz;have h0:a=0:=hz 0 (by omega)
 have h1:b=0:=hz 1 (by omega)
 have h2:c=0:=hz 2 (by omega)
 unfold jW;rw[if_neg (by simpa using h0),if_neg (by simpa using h1),h2]
def M9(w0:World)(ns:List Int)(v:Value)(wr:World):Prop:=∃j:Nat,j<=3/\v=.int .i64 (j:Int)/\(∀i<j,ns.getD i 0=0)/\wr=w0
theorem Cz(w:World)(x y:bg):Calls prog 85 #[.agg x.cells,.agg y.cells] w (bE w (.int .i64 (ve x y))):=by
 obtain⟨r,hr⟩:=Nm (ve x y);rw[<-hr];obtain⟨wa,TZ⟩:=Nm (w.alloc (.cells x.cells 47));obtain⟨xb,hxb⟩:=Nm (w.heap.size);obtain⟨wb,hwb⟩:=Nm (wa.alloc (.cells y.cells 47));obtain⟨yb,hyb⟩:=Nm (w.heap.size+1);have hws:wa.heap.size=w.heap.size+1:=by rw[TZ];exact bq w _
 have Yj:Hid (Bw w wb):=by
  have h1:=(Below.refl _ w).alloc (bfx _) (.cells x.cells 47);rw[<-TZ]at h1;rw[hwb];exact Lh (h1.alloc h1.size _)
 have HD:Hid (∀w',Bw wb w'->D3 w' xb x.key x.lo x.hi/\D3 w' yb y.key y.lo y.hi):=by
  have h1:bZ wa xb x:=by rw[TZ,hxb];exact bg5 w _
  have h2:bZ wb yb y:=by rw[hwb,hyb,<-hws];exact bg5 wa _
  have h3:Bw wa wb:=by rw[hwb];exact(Below.refl _ wa).alloc (bfx _) _
  exact Lh (λw' h=>⟨((h1.below h3).below h).d3,(h2.below h).d3⟩)
 have SB:Hid (Bw wb wb.drew):=(Below.refl _ wb).drew;obtain⟨xk,xl,xh⟩:=x;obtain⟨yk,yl,yh⟩:=y;simp only at HD;obtain⟨ka,hka⟩:=Nm (lC xh yh);obtain⟨kb,hkb⟩:=Nm (lC xl yl);obtain⟨kc,hkc⟩:=Nm (qW xk yk);have HR:Hid (r=jW ka kb kc):=by rw[hr,hka,hkb,hkc];exact Lh rfl
 have WL:Hid ((∀w',Calls prog 109 #[.int .i64 xh,.int .i64 yh] w' λe w2=>e=.returned (.int .i64 ka)/\w2=w')/\(∀w',Calls prog 109 #[.int .i64 xl,.int .i64 yl] w' λe w2=>e=.returned (.int .i64 kb)/\w2=w')/\(∀w',Calls prog 108 #[Sv xk,Sv yk] w' λe w2=>e=.returned (.int .i64 kc)/\w2=w')):=by
  rw[hka,hkb,hkc];exact Lh ⟨λw'=>pM w' _ _,λw'=>pM w' _ _,λw'=>BN w' _ _⟩
 unfold bg.cells at TZ hwb ⊢;clear hr hka hkb hkc;go_enter func85,ntmps85;go_upto_region 1 with(fail);rw[<-TZ,<-hwb,<-hyb,<-hxb];clear TZ hwb hxb hyb hws;refine fZ (by kernel_rfl) (NoF (NoF (NoF [none,none,none]))) [] (MW (kR (.pointer (some ⟨xb,2,none⟩))::kR (.int .i64 xh)::kR (.pointer (some ⟨yb,2,none⟩))::kR (.int .i64 yh)::kR (.int .i64 ka)::kR (.pointer (some ⟨xb,1,none⟩))::kR (.int .i64 xl)::kR (.pointer (some ⟨yb,1,none⟩))::kR (.int .i64 yl)::kR (.int .i64 kb)::kR (.pointer (some ⟨xb,0,none⟩))::kR (Sv xk)::kR (.pointer (some ⟨yb,0,none⟩))::kR (Sv yk)::kR (.int .i64 kc)::Qd wb.heap.size ka kb kc::kR (.int .i64 3)::kR (.int .i64 0)::([]:List _))) (λ_ w'=>Bw wb w') (λw w'=>Bw w w') (zx _) (by kernel_rfl) (by kernel_rfl) (by kernel_rfl) SB.out ⟨trivial,trivial,trivial,trivial,trivial,trivial,trivial,trivial,trivial,trivial,trivial,trivial,trivial,trivial,trivial,trivial,trivial,trivial,trivial⟩ ?_ ?_
 ·refine ⟨?_,?_,?_,?_,?_,?_,?_,?_,?_,?_,?_,?_,?_,?_,?_,?_,?_,?_,trivial⟩<;>intro k a w' hG Si Sj K hK<;>replace Si:=Lh Si<;>replace Sj:=Lh Sj
  have q2:=FaA Si 2 xb 0;rotate_left;have q7:=Pa a 7 xb 2 Sj.out.1;obtain⟨d0,d1,d2⟩:=(HD.out w' hG).1;rotate_left;have q3:=FaA Si 3 yb 0;rotate_left;have q9:=Pa a 9 yb 2 Sj.out.1;obtain⟨d0,d1,d2⟩:=(HD.out w' hG).2;rotate_left
  ·have q8:=Pi a 8 xh Sj.out.1;have XV:=Pi a 10 yh Sj.out.2.1;have HS:=Lh (WL.out.1 w');go_step;refine HS.out.mono ?_;rintro e w3 ⟨rfl,hw3⟩;subst w3;exact hK _ _ rfl hG Br
  have q2:=FaA Si 2 xb 0;rotate_left;have VU:=Pa a 12 xb 1 Sj.out.1;obtain⟨d0,d1,d2⟩:=(HD.out w' hG).1;rotate_left;have q3:=FaA Si 3 yb 0;rotate_left;have Ww:=Pa a 14 yb 1 Sj.out.1;obtain⟨d0,d1,d2⟩:=(HD.out w' hG).2;rotate_left
  ·have YR:=Pi a 13 xl Sj.out.1;have Xv:=Pi a 15 yl Sj.out.2.1;have HS:=Lh (WL.out.2.1 w');go_step;refine HS.out.mono ?_;rintro e w3 ⟨rfl,hw3⟩;subst w3;exact hK _ _ rfl hG Br
  have q2:=FaA Si 2 xb 0;rotate_left;have Wx:=Pa a 17 xb 0 Sj.out.1;obtain⟨d0,d1,d2⟩:=(HD.out w' hG).1;rotate_left;have q3:=FaA Si 3 yb 0;rotate_left;have VV:=Pa a 19 yb 0 Sj.out.1;obtain⟨d0,d1,d2⟩:=(HD.out w' hG).2;rotate_left
  ·have Vn:=Ep a 18 (Sv xk) Sj.out.1;have Wy:=Ep a 20 (Sv yk) Sj.out.2.1;have HS:=Lh (WL.out.2.2 w');go_step;refine HS.out.mono ?_;rintro e w3 ⟨rfl,hw3⟩;subst w3;exact hK _ _ rfl hG Br
  ·have Zp:=Pi a 11 ka Sj.out.1;have q16:=Pi a 16 kb Sj.out.2.1;have VZ:=Pi a 21 kc Sj.out.2.2.1;go_step;exact hK _ _ ⟨w'.heap.size,rfl,hG.size,bg5 w' _⟩ (hG.alloc hG.size _) ((Below.refl _ w').alloc (bfx _) _)
  obtain ⟨p0,_⟩:=Sj.out;obtain⟨gg,hg0,_,_⟩:=p0;have q22:=Ep a 22 (.slice (some ⟨gg,0,none⟩) 3 3) hg0;rotate_left;rotate_left
  all_goals(go_step;exact hK _ _ rfl hG Br)
 intro vs w2 hG hlen hV
 match vs,hlen,hV with
 | [v0,v1,v2,v3,v4,v5,v6,v7,v8,v9,v10,v11,v12,v13,v14,v15,v16,v17],_,hV=>
  obtain rfl:v16=.int .i64 3:=hV 16 23 v16 rfl rfl;obtain rfl:v17=.int .i64 0:=hV 17 24 v17 rfl rfl;obtain⟨gg,rfl,hgb,hgr⟩:∃gg,v15=.slice (some ⟨gg,0,none⟩) 3 3/\wb.heap.size<=gg/\w2.heap[gg]? =some (.cells #[.int .i64 ka,.int .i64 kb,.int .i64 kc] 3 (0,0)):=hV 15 22 v15 rfl rfl;clear hV;simp only[dG,bf7,bf1];simp only[Act.put,bfw,bfu,bfv];have HW:Hid (Bw w w2/\∀w',Bw w2 w'->∀j<3,w'.cell? ⟨gg,j,none⟩=some (.int .i64 (([ka,kb,kc]:List Int).getD j 0))):=by
   have hb:=Tb Yj.out hG;refine Lh ⟨hb,λw' h j hj=>?_⟩;rw[cell_of_row _ _ _ _ _ _ ((h.block _ (Array.getElem?_eq_some_iff.1 hgr).1).trans hgr)];obtain rfl | rfl | rfl:j=0∨j=1∨j=2:=by omega
   all_goals rfl
  clear hG hgb hgr;obtain⟨ns,hns⟩:=Nm ([ka,kb,kc]:List Int);have HR2:Hid ((∀j<3,(∀i<j,ns.getD i 0=0)->ns.getD j 0≠0->r=ns.getD j 0)/\((∀i<3,ns.getD i 0=0)->r=0)):=by
   rw[HR.out,hns];exact Lh (yF ka kb kc)
  rw[<-hns]at HW;clear hns;go_wp2_with(fail);go_loopw[24] (M9 w2 ns) (λv _=>3-(intOf v).toNat)
  case atStart=>exact⟨0,by omega,rfl,λi hi=>by omega,rfl⟩
  case round=>
   obtain⟨j,hj,rfl,hz,rfl⟩:=hrel;have Yk:=Lh hz;clear hz;by_cases hlt:j<3
   ·have hc:=HW.out.2 _ Br j hlt;obtain⟨n,hn⟩:=Nm (ns.getD j 0);rw[<-hn]at hc;have HN:=Lh hn;clear hn;by_cases hn0:n=0
    ·have e0:(n !=0)=false:=by rw[hn0];rfl
     have ui:=Lh hn0;clear hn0;go_wp2_with(fail);go_roundw
     case rel=>
      refine⟨j+1,hlt,by go_num,λi hi=>?_,rfl⟩
      by_cases hij:i<j
      ·exact Yk.out i hij
      obtain rfl:i=j:=by omega
      rw[<-HN.out];exact ui.out
     case measure=>simp[intOf];omega
    have e0:(n !=0)=true:=by simpa using hn0
    obtain rfl:r=n:=by rw[HN.out];exact HR2.out.1 j hlt Yk.out (by rw[<-HN.out];exact hn0)
    clear hn0;go_wp2_with(fail);go_ret;exact⟨rfl,HW.out.1⟩
   obtain rfl:j=3:=by omega
   obtain rfl:r=0:=HR2.out.2 Yk.out;clear hlt hj;go_wp2_with(fail);go_ret;exact⟨rfl,HW.out.1⟩
theorem pO(w:World)(x y:bg):Calls prog 73 #[.agg x.cells,.agg y.cells] w (bE w (.int .i64 (gG x y))):=by
 obtain⟨r,hr⟩:=Nm (gG x y);rw[<-hr];obtain⟨wa,TZ⟩:=Nm (w.alloc (.cells x.cells 47));obtain⟨xb,hxb⟩:=Nm (w.heap.size);obtain⟨wb,hwb⟩:=Nm (wa.alloc (.cells y.cells 47));obtain⟨yb,hyb⟩:=Nm (w.heap.size+1);have hws:wa.heap.size=w.heap.size+1:=by rw[TZ];exact bq w _
 have Yj:Hid (Bw w wb):=by
  have h1:=(Below.refl _ w).alloc (bfx _) (.cells x.cells 47);rw[<-TZ]at h1;rw[hwb];exact Lh (h1.alloc h1.size _)
 have HD:Hid (∀w',Bw wb w'->D3 w' xb x.key x.lo x.hi/\D3 w' yb y.key y.lo y.hi):=by
  have h1:bZ wa xb x:=by rw[TZ,hxb];exact bg5 w _
  have h2:bZ wb yb y:=by rw[hwb,hyb,<-hws];exact bg5 wa _
  have h3:Bw wa wb:=by rw[hwb];exact(Below.refl _ wa).alloc (bfx _) _
  exact Lh (λw' h=>⟨((h1.below h3).below h).d3,(h2.below h).d3⟩)
 have SB:Hid (Bw wb wb.drew):=(Below.refl _ wb).drew;obtain⟨xk,xl,xh⟩:=x;obtain⟨yk,yl,yh⟩:=y;simp only at HD;obtain⟨ka,hka⟩:=Nm (qW xk yk);obtain⟨kb,hkb⟩:=Nm (lC xl yl);obtain⟨kc,hkc⟩:=Nm (lC xh yh);have HR:Hid (r=jW ka kb kc):=by rw[hr,hka,hkb,hkc];exact Lh rfl
 have WL:Hid ((∀w',Calls prog 108 #[Sv xk,Sv yk] w' λe w2=>e=.returned (.int .i64 ka)/\w2=w')/\(∀w',Calls prog 109 #[.int .i64 xl,.int .i64 yl] w' λe w2=>e=.returned (.int .i64 kb)/\w2=w')/\(∀w',Calls prog 109 #[.int .i64 xh,.int .i64 yh] w' λe w2=>e=.returned (.int .i64 kc)/\w2=w')):=by
  rw[hka,hkb,hkc];exact Lh ⟨λw'=>BN w' _ _,λw'=>pM w' _ _,λw'=>pM w' _ _⟩
 unfold bg.cells at TZ hwb ⊢;clear hr hka hkb hkc;go_enter func73,ntmps73;go_upto_region 1 with(fail);rw[<-TZ,<-hwb,<-hyb,<-hxb];clear TZ hwb hxb hyb hws;refine fZ (by kernel_rfl) (NoF (NoF (NoF [none,none,none]))) [] (MW (kR (.pointer (some ⟨xb,0,none⟩))::kR (Sv xk)::kR (.pointer (some ⟨yb,0,none⟩))::kR (Sv yk)::kR (.int .i64 ka)::kR (.pointer (some ⟨xb,1,none⟩))::kR (.int .i64 xl)::kR (.pointer (some ⟨yb,1,none⟩))::kR (.int .i64 yl)::kR (.int .i64 kb)::kR (.pointer (some ⟨xb,2,none⟩))::kR (.int .i64 xh)::kR (.pointer (some ⟨yb,2,none⟩))::kR (.int .i64 yh)::kR (.int .i64 kc)::Qd wb.heap.size ka kb kc::kR (.int .i64 3)::kR (.int .i64 0)::([]:List _))) (λ_ w'=>Bw wb w') (λw w'=>Bw w w') (zx _) (by kernel_rfl) (by kernel_rfl) (by kernel_rfl) SB.out ⟨trivial,trivial,trivial,trivial,trivial,trivial,trivial,trivial,trivial,trivial,trivial,trivial,trivial,trivial,trivial,trivial,trivial,trivial,trivial⟩ ?_ ?_
 ·refine ⟨?_,?_,?_,?_,?_,?_,?_,?_,?_,?_,?_,?_,?_,?_,?_,?_,?_,?_,trivial⟩<;>intro k a w' hG Si Sj K hK<;>replace Si:=Lh Si<;>replace Sj:=Lh Sj
  have q2:=FaA Si 2 xb 0;rotate_left;have q7:=Pa a 7 xb 0 Sj.out.1;obtain⟨d0,d1,d2⟩:=(HD.out w' hG).1;rotate_left;have q3:=FaA Si 3 yb 0;rotate_left;have q9:=Pa a 9 yb 0 Sj.out.1;obtain⟨d0,d1,d2⟩:=(HD.out w' hG).2;rotate_left
  ·have q8:=Ep a 8 (Sv xk) Sj.out.1;have XV:=Ep a 10 (Sv yk) Sj.out.2.1;have HS:=Lh (WL.out.1 w');go_step;refine HS.out.mono ?_;rintro e w3 ⟨rfl,hw3⟩;subst w3;exact hK _ _ rfl hG Br
  have q2:=FaA Si 2 xb 0;rotate_left;have VU:=Pa a 12 xb 1 Sj.out.1;obtain⟨d0,d1,d2⟩:=(HD.out w' hG).1;rotate_left;have q3:=FaA Si 3 yb 0;rotate_left;have Ww:=Pa a 14 yb 1 Sj.out.1;obtain⟨d0,d1,d2⟩:=(HD.out w' hG).2;rotate_left
  ·have YR:=Pi a 13 xl Sj.out.1;have Xv:=Pi a 15 yl Sj.out.2.1;have HS:=Lh (WL.out.2.1 w');go_step;refine HS.out.mono ?_;rintro e w3 ⟨rfl,hw3⟩;subst w3;exact hK _ _ rfl hG Br
  have q2:=FaA Si 2 xb 0;rotate_left;have Wx:=Pa a 17 xb 2 Sj.out.1;obtain⟨d0,d1,d2⟩:=(HD.out w' hG).1;rotate_left;have q3:=FaA Si 3 yb 0;rotate_left;have VV:=Pa a 19 yb 2 Sj.out.1;obtain⟨d0,d1,d2⟩:=(HD.out w' hG).2;rotate_left
  ·have Vn:=Pi a 18 xh Sj.out.1;have Wy:=Pi a 20 yh Sj.out.2.1;have HS:=Lh (WL.out.2.2 w');go_step;refine HS.out.mono ?_;rintro e w3 ⟨rfl,hw3⟩;subst w3;exact hK _ _ rfl hG Br
  ·have Zp:=Pi a 11 ka Sj.out.1;have q16:=Pi a 16 kb Sj.out.2.1;have VZ:=Pi a 21 kc Sj.out.2.2.1;go_step;exact hK _ _ ⟨w'.heap.size,rfl,hG.size,bg5 w' _⟩ (hG.alloc hG.size _) ((Below.refl _ w').alloc (bfx _) _)
  obtain ⟨p0,_⟩:=Sj.out;obtain⟨gg,hg0,_,_⟩:=p0;have q22:=Ep a 22 (.slice (some ⟨gg,0,none⟩) 3 3) hg0;rotate_left;rotate_left
  all_goals(go_step;exact hK _ _ rfl hG Br)
 intro vs w2 hG hlen hV
 match vs,hlen,hV with
 | [v0,v1,v2,v3,v4,v5,v6,v7,v8,v9,v10,v11,v12,v13,v14,v15,v16,v17],_,hV=>
  obtain rfl:v16=.int .i64 3:=hV 16 23 v16 rfl rfl;obtain rfl:v17=.int .i64 0:=hV 17 24 v17 rfl rfl;obtain⟨gg,rfl,hgb,hgr⟩:∃gg,v15=.slice (some ⟨gg,0,none⟩) 3 3/\wb.heap.size<=gg/\w2.heap[gg]? =some (.cells #[.int .i64 ka,.int .i64 kb,.int .i64 kc] 3 (0,0)):=hV 15 22 v15 rfl rfl;clear hV;simp only[dG,bf7,bf1];simp only[Act.put,bfw,bfu,bfv];have HW:Hid (Bw w w2/\∀w',Bw w2 w'->∀j<3,w'.cell? ⟨gg,j,none⟩=some (.int .i64 (([ka,kb,kc]:List Int).getD j 0))):=by
   have hb:=Tb Yj.out hG;refine Lh ⟨hb,λw' h j hj=>?_⟩;rw[cell_of_row _ _ _ _ _ _ ((h.block _ (Array.getElem?_eq_some_iff.1 hgr).1).trans hgr)];obtain rfl | rfl | rfl:j=0∨j=1∨j=2:=by omega
   all_goals rfl
  clear hG hgb hgr;obtain⟨ns,hns⟩:=Nm ([ka,kb,kc]:List Int);have HR2:Hid ((∀j<3,(∀i<j,ns.getD i 0=0)->ns.getD j 0≠0->r=ns.getD j 0)/\((∀i<3,ns.getD i 0=0)->r=0)):=by
   rw[HR.out,hns];exact Lh (yF ka kb kc)
  rw[<-hns]at HW;clear hns;go_wp2_with(fail);go_loopw[24] (M9 w2 ns) (λv _=>3-(intOf v).toNat)
  case atStart=>exact⟨0,by omega,rfl,λi hi=>by omega,rfl⟩
  case round=>
   obtain⟨j,hj,rfl,hz,rfl⟩:=hrel;have Yk:=Lh hz;clear hz;by_cases hlt:j<3
   ·have hc:=HW.out.2 _ Br j hlt;obtain⟨n,hn⟩:=Nm (ns.getD j 0);rw[<-hn]at hc;have HN:=Lh hn;clear hn;by_cases hn0:n=0
    ·have e0:(n !=0)=false:=by rw[hn0];rfl
     have ui:=Lh hn0;clear hn0;go_wp2_with(fail);go_roundw
     case rel=>
      refine⟨j+1,hlt,by go_num,λi hi=>?_,rfl⟩
      by_cases hij:i<j
      ·exact Yk.out i hij
      obtain rfl:i=j:=by omega
      rw[<-HN.out];exact ui.out
     case measure=>simp[intOf];omega
    have e0:(n !=0)=true:=by simpa using hn0
    obtain rfl:r=n:=by rw[HN.out];exact HR2.out.1 j hlt Yk.out (by rw[<-HN.out];exact hn0)
    clear hn0;go_wp2_with(fail);go_ret;exact⟨rfl,HW.out.1⟩
   obtain rfl:j=3:=by omega
   obtain rfl:r=0:=HR2.out.2 Yk.out;clear hlt hj;go_wp2_with(fail);go_ret;exact⟨rfl,HW.out.1⟩
theorem dF.get {w:World} {a:Option Addr} {l:List bg}(h:dF w a l) {t:Nat}(ht:t<l.length):∃x b o,l[t]? =some x/\a=some ⟨b,o,none⟩/\w.cell? ⟨b,o+t*3,none⟩=some (Sv x.key)/\w.cell? ⟨b,o+t*3+1,none⟩=some (.int .i64 x.lo)/\
  w.cell? ⟨b,o+t*3+2,none⟩=some (.int .i64 x.hi):=by
 rcases h with h | ⟨b,o,h,h'⟩
 ·rw[h]at ht;simp at ht
 exact⟨l[t],b,o,bfs ht,h,h' t _ (bfs ht) 0 _ rfl,h' t _ (bfs ht) 1 _ rfl,h' t _ (bfs ht) 2 _ rfl⟩
theorem nR(w:World)(x y:bg):Calls prog 54 #[.agg x.cells,.agg y.cells] w (bE w (.int .i64 (gG x y))):=by
 obtain⟨r,hr⟩:=Nm (gG x y);rw[<-hr];obtain⟨wa,TZ⟩:=Nm (w.alloc (.cells x.cells 47));obtain⟨xb,hxb⟩:=Nm (w.heap.size);obtain⟨wb,hwb⟩:=Nm (wa.alloc (.cells y.cells 47));obtain⟨yb,hyb⟩:=Nm (w.heap.size+1);have hws:wa.heap.size=w.heap.size+1:=by rw[TZ];exact bq w _
 have Yj:Hid (Bw w wb):=by
  have h1:=(Below.refl _ w).alloc (bfx _) (.cells x.cells 47);rw[<-TZ]at h1;rw[hwb];exact Lh (h1.alloc h1.size _)
 have HD:Hid (∀w',Bw wb w'->D3 w' xb x.key x.lo x.hi/\D3 w' yb y.key y.lo y.hi):=by
  have h1:bZ wa xb x:=by rw[TZ,hxb];exact bg5 w _
  have h2:bZ wb yb y:=by rw[hwb,hyb,<-hws];exact bg5 wa _
  have h3:Bw wa wb:=by rw[hwb];exact(Below.refl _ wa).alloc (bfx _) _
  exact Lh (λw' h=>⟨((h1.below h3).below h).d3,(h2.below h).d3⟩)
 have SB:Hid (Bw wb wb.drew):=(Below.refl _ wb).drew;obtain⟨xk,xl,xh⟩:=x;obtain⟨yk,yl,yh⟩:=y;simp only at HD;obtain⟨ka,hka⟩:=Nm (qW xk yk);obtain⟨kb,hkb⟩:=Nm (lC xl yl);obtain⟨kc,hkc⟩:=Nm (lC xh yh);have HR:Hid (r=jW ka kb kc):=by rw[hr,hka,hkb,hkc];exact Lh rfl
 have WL:Hid ((∀w',Calls prog 90 #[Sv xk,Sv yk] w' λe w2=>e=.returned (.int .i64 ka)/\w2=w')/\(∀w',Calls prog 91 #[.int .i64 xl,.int .i64 yl] w' λe w2=>e=.returned (.int .i64 kb)/\w2=w')/\(∀w',Calls prog 91 #[.int .i64 xh,.int .i64 yh] w' λe w2=>e=.returned (.int .i64 kc)/\w2=w')):=by
  rw[hka,hkb,hkc];exact Lh ⟨λw'=>Gn w' _ _,λw'=>rZ w' _ _,λw'=>rZ w' _ _⟩
 unfold bg.cells at TZ hwb ⊢;clear hr hka hkb hkc;go_enter func54,ntmps54;go_upto_region 1 with(fail);rw[<-TZ,<-hwb,<-hyb,<-hxb];clear TZ hwb hxb hyb hws;refine fZ (by kernel_rfl) (NoF (NoF (NoF [none,none,none]))) [] (MW (kR (.pointer (some ⟨xb,0,none⟩))::kR (Sv xk)::kR (.pointer (some ⟨yb,0,none⟩))::kR (Sv yk)::kR (.int .i64 ka)::kR (.pointer (some ⟨xb,1,none⟩))::kR (.int .i64 xl)::kR (.pointer (some ⟨yb,1,none⟩))::kR (.int .i64 yl)::kR (.int .i64 kb)::kR (.pointer (some ⟨xb,2,none⟩))::kR (.int .i64 xh)::kR (.pointer (some ⟨yb,2,none⟩))::kR (.int .i64 yh)::kR (.int .i64 kc)::Qd wb.heap.size ka kb kc::kR (.int .i64 r)::kR (.int .i64 r)::([]:List _))) (λ_ w'=>Bw wb w') (λw w'=>Bw w w') (zx _) (by kernel_rfl) (by kernel_rfl) (by kernel_rfl) SB.out ⟨trivial,trivial,trivial,trivial,trivial,trivial,trivial,trivial,trivial,trivial,trivial,trivial,trivial,trivial,trivial,trivial,trivial,trivial,trivial⟩ ?_ ?_
 ·refine ⟨?_,?_,?_,?_,?_,?_,?_,?_,?_,?_,?_,?_,?_,?_,?_,?_,?_,?_,trivial⟩<;>intro k a w' hG Si Sj K hK<;>replace Si:=Lh Si<;>replace Sj:=Lh Sj
  have q2:=FaA Si 2 xb 0;rotate_left;have q5:=Pa a 5 xb 0 Sj.out.1;obtain⟨d0,d1,d2⟩:=(HD.out w' hG).1;rotate_left;have q3:=FaA Si 3 yb 0;rotate_left;have q7:=Pa a 7 yb 0 Sj.out.1;obtain⟨d0,d1,d2⟩:=(HD.out w' hG).2;rotate_left
  ·have q6:=Ep a 6 (Sv xk) Sj.out.1;have q8:=Ep a 8 (Sv yk) Sj.out.2.1;have HS:=Lh (WL.out.1 w');go_step;refine HS.out.mono ?_;rintro e w3 ⟨rfl,hw3⟩;subst w3;exact hK _ _ rfl hG Br
  have q2:=FaA Si 2 xb 0;rotate_left;have XV:=Pa a 10 xb 1 Sj.out.1;obtain⟨d0,d1,d2⟩:=(HD.out w' hG).1;rotate_left;have q3:=FaA Si 3 yb 0;rotate_left;have VU:=Pa a 12 yb 1 Sj.out.1;obtain⟨d0,d1,d2⟩:=(HD.out w' hG).2;rotate_left
  ·have Zp:=Pi a 11 xl Sj.out.1;have YR:=Pi a 13 yl Sj.out.2.1;have HS:=Lh (WL.out.2.1 w');go_step;refine HS.out.mono ?_;rintro e w3 ⟨rfl,hw3⟩;subst w3;exact hK _ _ rfl hG Br
  have q2:=FaA Si 2 xb 0;rotate_left;have Xv:=Pa a 15 xb 2 Sj.out.1;obtain⟨d0,d1,d2⟩:=(HD.out w' hG).1;rotate_left;have q3:=FaA Si 3 yb 0;rotate_left;have Wx:=Pa a 17 yb 2 Sj.out.1;obtain⟨d0,d1,d2⟩:=(HD.out w' hG).2;rotate_left
  ·have q16:=Pi a 16 xh Sj.out.1;have Vn:=Pi a 18 yh Sj.out.2.1;have HS:=Lh (WL.out.2.2 w');go_step;refine HS.out.mono ?_;rintro e w3 ⟨rfl,hw3⟩;subst w3;exact hK _ _ rfl hG Br
  ·have q9:=Pi a 9 ka Sj.out.1;have Ww:=Pi a 14 kb Sj.out.2.1;have VV:=Pi a 19 kc Sj.out.2.2.1;go_step;exact hK _ _ ⟨w'.heap.size,rfl,hG.size,bg5 w' _⟩ (hG.alloc hG.size _) ((Below.refl _ w').alloc (bfx _) _)
  ·obtain ⟨p0,_⟩:=Sj.out;obtain⟨gg,hg0,_,hgr⟩:=p0;have q0:=Ep a 20 (.slice (some ⟨gg,0,none⟩) 3 3) hg0;have hor:=K4 w' gg ka kb kc hgr;rw[<-HR.out]at hor;have HS:=Lh hor;clear hor hgr hg0;go_step;refine HS.out.mono ?_;rintro e w3 ⟨rfl,hw3⟩;subst w3;exact hK _ _ rfl hG Br
  have VZ:=Pi a 21 r Sj.out.1;rotate_left
  all_goals(go_step;exact hK _ _ rfl hG Br)
 intro vs w2 hG hlen hV
 match vs,hlen,hV with
 | [v0,v1,v2,v3,v4,v5,v6,v7,v8,v9,v10,v11,v12,v13,v14,v15,v16,v17],_,hV=>
  obtain rfl:v17=.int .i64 r:=hV 17 4 v17 rfl rfl;clear hV;simp only[dG,bf7,bf1];simp only[Act.put,bfw,bfu,bfv];have HZ:Hid (Bw w w2):=Tb Yj.out hG;clear hG;go_wp2_with(fail);go_ret;exact⟨rfl,HZ.out⟩
theorem yg(w:World)(t:Int):Calls prog 86 #[.int .i64 t] w (λe w'=>e=.returned (.bool (decide (0<=t/\t<=1099511627776)))/\w'=w):=by
 by_cases h0:0<=t
 ·by_cases h1:t<=1099511627776
  ·rw[bfr ⟨h0,h1⟩];go_enter func86,ntmps86;go_wp2_with(fail);go_ret;exact⟨rfl,rfl⟩
  rw[bfq (λh=>h1 h.2)];have d1:decide (t<=1099511627776)=false:=bfq h1;go_enter func86,ntmps86;go_wp2_with(fail);go_ret;exact⟨rfl,rfl⟩
 rw[bfq (λh=>h0 h.1)];have d0:decide (0<=t)=false:=bfq h0;go_enter func86,ntmps86;go_wp2_with(fail);go_ret;exact⟨rfl,rfl⟩
theorem nT(w:World)(x:bg)(hl:x.key.length<=1000000):
  Calls prog 48 #[.agg x.cells] w (bE w (.bool x.bB)):=by
 obtain⟨key,lo,hi⟩:=x;obtain⟨r,hr⟩:=Nm ((bg.mk key lo hi).bB);rw[<-hr];have hN:=λw=>tJ w key hl;obtain⟨nb,hnb⟩:=Nm (kr key);rw[<-hnb]at hN;simp only[bg.bB]at hr;rw[<-hnb]at hr;have Tt:=Lh hN;obtain⟨tb,htb⟩:=Nm (decide (0<=lo/\lo<=1099511627776));have YK:Hid (∀w',Calls prog 86 #[.int .i64 lo] w' (λe w''=>e=.returned (.bool tb)/\w''=w')):=by
  rw[htb];exact Lh (λw'=>yg w' lo)
 clear hnb hN hl;unfold bg.cells
 cases nb with
 | false=>
  obtain rfl:r=false:=by rw[hr];rfl
  clear hr htb;go_enter func48,ntmps48;go_wp2_with(fail);refine(Tt.out _).mono ?_;rintro e w3 ⟨rfl,rfl⟩;dsimp only;go_wp2_with(fail);go_ret;exact⟨rfl,(Below.refl _ w).alloc (bfx _) _⟩
 | true=>
  rw[bgw]at hr
  cases tb with
  | false=>
   have h0:=of_decide_eq_false htb.symm;obtain rfl:r=false:=by rw[hr,bfq (by omega)]
   clear hr htb h0;go_enter func48,ntmps48;go_wp2_with(fail);refine(Tt.out _).mono ?_;rintro e w3 ⟨rfl,rfl⟩;dsimp only;go_wp2_with(fail);refine(YK.out _).mono ?_;rintro e w3 ⟨rfl,rfl⟩;dsimp only;go_wp2_with(fail);go_ret;exact⟨rfl,(Below.refl _ w).alloc (bfx _) _⟩
  | true=>
  have h0:=bgh htb.symm;by_cases h2:lo<hi
  case neg=>
   obtain rfl:r=false:=by rw[hr,bfq (by omega)]
   have d2:decide (lo<hi)=false:=bfq h2;clear hr htb h0;go_enter func48,ntmps48;go_wp2_with(fail);refine(Tt.out _).mono ?_;rintro e w3 ⟨rfl,rfl⟩;dsimp only;go_wp2_with(fail);refine(YK.out _).mono ?_;rintro e w3 ⟨rfl,rfl⟩;dsimp only;go_wp2_with(fail);go_ret;exact⟨rfl,(Below.refl _ w).alloc (bfx _) _⟩
  by_cases h3:hi<=4398046511104
  case neg=>
   obtain rfl:r=false:=by rw[hr,bfq (by omega)]
   have d3:decide (hi<=4398046511104)=false:=bfq h3;clear hr htb h0;go_enter func48,ntmps48;go_wp2_with(fail);refine(Tt.out _).mono ?_;rintro e w3 ⟨rfl,rfl⟩;dsimp only;go_wp2_with(fail);refine(YK.out _).mono ?_;rintro e w3 ⟨rfl,rfl⟩;dsimp only;go_wp2_with(fail);go_ret;exact⟨rfl,(Below.refl _ w).alloc (bfx _) _⟩
  obtain rfl:r=true:=by rw[hr,bfr (by omega)]
  clear hr htb h0;go_enter func48,ntmps48;go_wp2_with(fail);refine(Tt.out _).mono ?_;rintro e w3 ⟨rfl,rfl⟩;dsimp only;go_wp2_with(fail);refine(YK.out _).mono ?_;rintro e w3 ⟨rfl,rfl⟩;dsimp only;go_wp2_with(fail);go_ret;exact⟨rfl,(Below.refl _ w).alloc (bfx _) _⟩
theorem x9(w:World)(x:bg)(mark:Int)(hl:x.key.length<=1000000):Calls prog 51 #[.agg x.cells,.int .i64 mark] w (bE w (.bool (ji x mark))):=by
 obtain⟨b,hb⟩:=Nm (ji x mark);rw[<-hb];obtain⟨w1,hw1⟩:=Nm (w.alloc (.cells x.cells 47));obtain⟨xb,hxb⟩:=Nm (w.heap.size);have H1:Hid (Bw w w1):=by rw[hw1];exact Lh ((Below.refl _ w).alloc (bfx _) _)
 have HD:Hid (∀w',Bw w1 w'->D3 w' xb x.key x.lo x.hi):=by
  have h1:bZ w1 xb x:=by rw[hw1,hxb];exact bg5 w _
  exact Lh (λw' h=>(h1.below h).d3)
 obtain⟨r,hr⟩:=Nm (x.bB);have SG:Hid (∀w',Calls prog 48 #[.agg x.cells] w' (bE w' (.bool r))):=by
  rw[hr];exact Lh (λw'=>nT w' x hl)
 unfold ji at hb;rw[<-hr]at hb;obtain⟨key,lo,hi⟩:=x;simp only at hb;unfold bg.cells at hw1 SG ⊢;simp only at HD;obtain⟨d0,d1,d2⟩:=HD.out w1 Br;clear hr hl
 cases r with
 | false=>
  obtain rfl:b=false:=by rw[hb];rfl
  clear hb;go_enter func51,ntmps51;go_upto_region 1 with(fail);rw[<-hw1,<-hxb];clear hw1 hxb;go_wp2_with(fail);refine(SG.out _).mono ?_;rintro e w3 ⟨rfl,hB⟩;have H3:=Lh (Tb H1.out hB);have HB3:=Lh hB;clear hB d0 d1 d2;obtain⟨d0,d1,d2⟩:=HD.out w3 HB3.out;dsimp only;go_wp2_with(fail);go_ret;exact⟨rfl,H3.out⟩
 | true=>
  rw[bgw]at hb;by_cases h0:hi<=mark
  case neg=>
   obtain rfl:b=false:=by rw[hb,bfq (by omega)]
   have e0:decide (hi<=mark)=false:=bfq h0;clear hb;go_enter func51,ntmps51;go_upto_region 1 with(fail);rw[<-hw1,<-hxb];clear hw1 hxb;go_wp2_with(fail);refine(SG.out _).mono ?_;rintro e w3 ⟨rfl,hB⟩;have H3:=Lh (Tb H1.out hB);have HB3:=Lh hB;clear hB d0 d1 d2;obtain⟨d0,d1,d2⟩:=HD.out w3 HB3.out;dsimp only;go_wp2_with(fail);go_ret;exact⟨rfl,H3.out⟩
  obtain rfl:b=true:=by rw[hb,bfr (by omega)]
  clear hb;go_enter func51,ntmps51;go_upto_region 1 with(fail);rw[<-hw1,<-hxb];clear hw1 hxb;go_wp2_with(fail);refine(SG.out _).mono ?_;rintro e w3 ⟨rfl,hB⟩;have H3:=Lh (Tb H1.out hB);have HB3:=Lh hB;clear hB d0 d1 d2;obtain⟨d0,d1,d2⟩:=HD.out w3 HB3.out;dsimp only;go_wp2_with(fail);go_ret;exact⟨rfl,H3.out⟩
theorem x8(w:World)(q:bz)(x:bg)(mark:Int)(hl:x.key.length<=1000000):Calls prog 50 #[.agg q.cells,.agg x.cells,.int .i64 mark] w (bE w (.bool (gy q x mark))):=by
 obtain⟨b,hb⟩:=Nm (gy q x mark);rw[<-hb];obtain⟨w1,hw1⟩:=Nm ((w.alloc (.cells q.cells 23)).alloc (.cells x.cells 47));obtain⟨qb,hxb⟩:=Nm (w.heap.size);obtain⟨xb,W9⟩:=Nm (w.heap.size+1);have H1:Hid (Bw w w1):=by
  have h1:=(Below.refl _ w).alloc (bfx _) (.cells q.cells 23);rw[hw1];exact Lh (h1.alloc h1.size _)
 have HD:Hid (∀w',Bw w1 w'->D3 w' xb x.key x.lo x.hi/\D6 w' qb q.kind q.size q.slide q.late q.agg q.k):=by
  have h1:bZ w1 xb x:=by rw[hw1,W9,<-bq w (.cells q.cells 23)];exact bg5 _ _
  have h2:dn w1 qb q:=by
   have h3:dn (w.alloc (.cells q.cells 23)) qb q:=by rw[hxb];exact bg5 w _
   rw[hw1];exact h3.below (Br.alloc (bfx _) _)
  exact Lh (λw' h=>⟨(h1.below h).d3,(h2.below h).d6⟩)
 obtain⟨r,hr⟩:=Nm (x.bB);obtain⟨s,hs⟩:=Nm (q.bB);have SG:Hid (∀w',Calls prog 48 #[.agg x.cells] w' (bE w' (.bool r))):=by
  rw[hr];exact Lh (λw'=>nT w' x hl)
 have EC:Hid (∀w',Calls prog 28 #[.agg q.cells] w' (bE w' (.bool s))):=by
  rw[hs];exact Lh (λw'=>nN w' q)
 have SA:Hid (r=true->s=true->(0<=x.hi/\x.hi<=4398046511104)/\0<=q.late/\q.late<=1073741824):=by
  refine Lh (λh1 h2=>?_);have g1:=cu (x:=x) (by rw[<-hr];exact h1)
  have g2:=tT (q:=q) (by rw[<-hs];exact h2)
  omega
 unfold gy at hb;rw[<-hr,<-hs]at hb;obtain⟨key,lo,hi⟩:=x;obtain⟨kind,size,slide,late,agg,tk⟩:=q;unfold bg.cells at hw1 SG ⊢;unfold bz.cells at hw1 EC ⊢;simp only at HD SA hb;obtain⟨⟨d0,d1,d2⟩,f0,f1,f2,f3,f4,f5⟩:=HD.out w1 Br;clear hr hs hl
 cases s with
 | false=>
  obtain rfl:b=false:=by rw[hb];rfl
  clear hb;go_enter func50,ntmps50;go_upto_region 1 with(fail);rw[<-hw1,<-W9,<-hxb];clear hw1 hxb W9;go_wp2_with(fail);refine(EC.out _).mono ?_;rintro e w2 ⟨rfl,hB⟩;have H2:=Lh (Tb H1.out hB);have HB2:=Lh hB;clear hB d0 d1 d2 f0 f1 f2 f3 f4 f5;dsimp only;go_wp2_with(fail);go_ret;exact⟨rfl,H2.out⟩
 | true=>
  cases r with
  | false=>
   obtain rfl:b=false:=by rw[hb];rfl
   clear hb;go_enter func50,ntmps50;go_upto_region 1 with(fail);rw[<-hw1,<-W9,<-hxb];clear hw1 hxb W9;go_wp2_with(fail);refine(EC.out _).mono ?_;rintro e w2 ⟨rfl,hB⟩;have H2:=Lh (Tb H1.out hB);have HB2:=Lh hB;clear hB d0 d1 d2 f0 f1 f2 f3 f4 f5;obtain⟨d0,d1,d2⟩:=(HD.out w2 HB2.out).1;obtain⟨f0,f1,f2,f3,f4,f5⟩:=(HD.out w2 HB2.out).2;dsimp only;go_wp2_with(fail);refine(SG.out _).mono ?_;rintro e w3 ⟨rfl,hB⟩;have H3:=Lh (Tb H2.out hB);have HB3:=Lh (Tb HB2.out hB);clear hB d0 d1 d2 f0 f1 f2 f3 f4 f5;obtain⟨d0,d1,d2⟩:=(HD.out w3 HB3.out).1;obtain⟨f0,f1,f2,f3,f4,f5⟩:=(HD.out w3 HB3.out).2;dsimp only;go_wp2_with(fail);go_ret;exact⟨rfl,H3.out⟩
  | true=>
   obtain⟨⟨g1,g2⟩,g3,g4⟩:=SA.out rfl rfl;obtain rfl:b=decide (hi+late<=mark):=by rw[hb];rfl
   clear hb;go_enter func50,ntmps50;go_upto_region 1 with(fail);rw[<-hw1,<-W9,<-hxb];clear hw1 hxb W9;go_wp2_with(fail);refine(EC.out _).mono ?_;rintro e w2 ⟨rfl,hB⟩;have H2:=Lh (Tb H1.out hB);have HB2:=Lh hB;clear hB d0 d1 d2 f0 f1 f2 f3 f4 f5;obtain⟨d0,d1,d2⟩:=(HD.out w2 HB2.out).1;obtain⟨f0,f1,f2,f3,f4,f5⟩:=(HD.out w2 HB2.out).2;dsimp only;go_wp2_with(fail);refine(SG.out _).mono ?_;rintro e w3 ⟨rfl,hB⟩;have H3:=Lh (Tb H2.out hB);have HB3:=Lh (Tb HB2.out hB);clear hB d0 d1 d2 f0 f1 f2 f3 f4 f5;obtain⟨d0,d1,d2⟩:=(HD.out w3 HB3.out).1;obtain⟨f0,f1,f2,f3,f4,f5⟩:=(HD.out w3 HB3.out).2;dsimp only;go_wp2_with(fail);go_ret;exact⟨rfl,H3.out⟩
theorem lu(w:World)(x y:bg):
  Bw w ((w.alloc (.cells x.cells 47)).alloc (.cells y.cells 47))/\
  ∀w',Below ((w.alloc (.cells x.cells 47)).alloc (.cells y.cells 47)).heap.size ((w.alloc (.cells x.cells 47)).alloc (.cells y.cells 47)) w'->
   D3 w' w.heap.size x.key x.lo x.hi/\D3 w' (w.heap.size+1) y.key y.lo y.hi:=by
 have hs:=bq w (.cells x.cells 47);have h1:bZ (w.alloc (.cells x.cells 47)) w.heap.size x:=bg5 w _;have h2:=bg5 (w.alloc (.cells x.cells 47)) (.cells y.cells 47);rw[hs]at h2;have b1:Bw w (w.alloc (.cells x.cells 47)):=(Below.refl _ w).alloc (bfx _) _;have b2:Below (w.alloc (.cells x.cells 47)).heap.size (w.alloc (.cells x.cells 47)) ((w.alloc (.cells x.cells 47)).alloc (.cells y.cells 47)):=Br.alloc (bfx _) _;exact⟨Tb b1 b2,λw' h=>⟨((h1.below b2).below h).d3,(bZ.below (x:=y) h2 h).d3⟩⟩
theorem yU(w:World)(x y:bg)(hx:x.key.length<=1000000)(hy:y.key.length<=1000000):
  Calls prog 110 #[.agg x.cells,.agg y.cells] w (bE w (.bool (dK x y))):=by
 obtain⟨r,hr⟩:=Nm (dK x y);rw[<-hr];obtain⟨w1,hw1⟩:=Nm ((w.alloc (.cells x.cells 47)).alloc (.cells y.cells 47));obtain⟨xb,hxb⟩:=Nm (w.heap.size);obtain⟨yb,hyb⟩:=Nm (w.heap.size+1);have H1:Hid (Bw w w1):=by rw[hw1];exact Lh (lu w x y).1
 have HD:Hid (∀w',Bw w1 w'->D3 w' xb x.key x.lo x.hi/\D3 w' yb y.key y.lo y.hi):=by
  rw[hw1,hxb,hyb];exact Lh (lu w x y).2
 obtain⟨ra,hra⟩:=Nm (x.bB);obtain⟨rb,hrb⟩:=Nm (y.bB);have Vk:Hid (∀w',Calls prog 70 #[.agg x.cells] w' (bE w' (.bool ra))):=by
  rw[hra];exact Lh (λw'=>pQ w' x hx)
 have Vz:Hid (∀w',Calls prog 70 #[.agg y.cells] w' (bE w' (.bool rb))):=by
  rw[hrb];exact Lh (λw'=>pQ w' y hy)
 unfold dK at hr;rw[<-hra,<-hrb]at hr;clear hra hrb hx hy;obtain⟨xk,xl,xh⟩:=x;obtain⟨yk,yl,yh⟩:=y;unfold bg.cells at hw1 Vk Vz ⊢;simp only at HD hr;have hsz:(w.alloc (.cells #[Sv xk,.int .i64 xl,.int .i64 xh] 47)).heap.size=w.heap.size+1:=bq w _;obtain⟨⟨c0,c1,c2⟩,d0,d1,d2⟩:=HD.out w1 Br;obtain⟨ke,hke⟩:=Nm (decide (xk=yk));have OP:∀w,(binOp .eql 9 (Sv xk) (Sv yk)).run prog w=.ok (.bool ke) w:=λw=>by rw[hke];exact qZ w xk yk
 have Hr:=Lh (bfy hr hke);clear hr hke
 cases ra with
 | false=>
  obtain rfl:r=false:=by rw[Hr.out.1];rfl
  go_enter func110,ntmps110;go_upto_region 1 with(fail);rw[<-hw1,<-hyb,<-hxb];clear hw1 hxb hyb;go_wp2_with(fail);refine(Vk.out w1).mono ?_;rintro e w3 ⟨rfl,hB⟩;have HB:=Lh (Tb H1.out hB);clear hB c0 c1 c2 d0 d1 d2;dsimp only;go_wp2_with(fail);go_ret;exact⟨rfl,HB.out⟩
 | true=>
 cases rb with
 | false=>
  obtain rfl:r=false:=by rw[Hr.out.1];rfl
  go_enter func110,ntmps110;go_upto_region 1 with(fail);rw[<-hw1,<-hyb,<-hxb];clear hw1 hxb hyb;go_wp2_with(fail);refine(Vk.out w1).mono ?_;rintro e w3 ⟨rfl,hB⟩;have HB:=Lh hB;clear hB c0 c1 c2 d0 d1 d2;obtain⟨⟨c0,c1,c2⟩,d0,d1,d2⟩:=HD.out w3 HB.out;dsimp only;go_wp2_with(fail);refine(Vz.out w3).mono ?_;rintro e w4 ⟨rfl,hB⟩;have X3:=Lh (H1.out.trans ((Tb HB.out hB).mono H1.out.size));clear hB c0 c1 c2 d0 d1 d2;dsimp only;go_wp2_with(fail);go_ret;exact⟨rfl,X3.out⟩
 | true=>
  go_enter func110,ntmps110;go_upto_region 1 with(fail);rw[<-hw1,<-hyb,<-hxb];clear hw1 hxb hyb;go_wp2_with(fail);refine(Vk.out w1).mono ?_;rintro e w3 ⟨rfl,hB⟩;have HB:=Lh hB;clear hB c0 c1 c2 d0 d1 d2;obtain⟨⟨c0,c1,c2⟩,d0,d1,d2⟩:=HD.out w3 HB.out;dsimp only;go_wp2_with(fail);refine(Vz.out w3).mono ?_;rintro e w4 ⟨rfl,hB⟩;have HB3:=Lh (Tb HB.out hB);have X3:=Lh (Tb H1.out HB3.out);clear hB c0 c1 c2 d0 d1 d2;obtain⟨⟨c0,c1,c2⟩,d0,d1,d2⟩:=HD.out w4 HB3.out;dsimp only
  cases ke with
  | false=>
   obtain rfl:r=false:=by
    rw[Hr.out.1,bgw,bgw];refine bfq λh=>?_;have:=of_decide_eq_false Hr.out.2.symm;exact this h.1
   go_wp2_with(fail);go_ret;exact⟨rfl,X3.out⟩
  | true=>
   have hk:xk=yk:=bgh Hr.out.2.symm;have hr':r=decide (xl<=yh/\yl<=xh):=by
    rw[Hr.out.1,bgw,bgw];exact decide_eq_decide.2 ⟨λh=>h.2,λh=>⟨hk,h⟩⟩
   clear hk;by_cases h1:xl<=yh
   ·have e1:decide (yh<xl)=false:=bfq (by omega)
    by_cases h2:yl<=xh
    ·have e2:decide (xh<yl)=false:=bfq (by omega)
     obtain rfl:r=true:=by rw[hr'];exact bfr ⟨h1,h2⟩
     clear hr' h1 h2;go_wp2_with(fail);go_ret;exact⟨rfl,X3.out⟩
    have e2:xh<yl:=by omega
    obtain rfl:r=false:=by rw[hr'];exact bfq (λh=>h2 h.2)
    clear hr' h1 h2;go_wp2_with(fail);go_ret;exact⟨rfl,X3.out⟩
   have e1:yh<xl:=by omega
   obtain rfl:r=false:=by rw[hr'];exact bfq (λh=>h1 h.1)
   clear hr' h1;go_wp2_with(fail);go_ret;exact⟨rfl,X3.out⟩
def pX(l:List bg)(i:Nat):bg:=l.getD i bX
theorem fF {l:List bg} {i:Nat} {x:bg}(h:l[i]? =some x):pX l i=x:=by
 rw[pX,List.getD_eq_getElem?_getD,h,Option.getD_some]
def zf(l:List bg)(i k:Nat):Bool:=!decide (k=i) && (dK (pX l i) (pX l k) || (decide (k<i) !=decide (gG (pX l k) (pX l i)<0)))
theorem sH(l:List bg):dD l↔∀i<l.length,(pX l i).bB=true/\∀k<l.length,zf l i k=false:=by
 have hat:∀i (h:i<l.length),pX l i=l[i]:=λi h=>fF (bfs h);constructor
 ·intro h i hi;refine⟨by rw[hat i hi];exact h.1 _ (List.getElem_mem _),λk hk=>?_⟩
  have hp:=List.pairwise_iff_getElem.1 h.2;unfold zf;rw[hat i hi,hat k hk];rcases Nat.lt_trichotomy k i with hki | rfl | hki
  ·obtain⟨p1,p2⟩:=hp k i hk hi hki;rw[bfq (by omega),mo,p2,bfr hki,bfr ((gI _ _).2 p1)]
   rfl
  ·simp
  obtain⟨p1,p2⟩:=hp i k hi hk hki;have:¬gG l[k] l[i] < 0:=λh'=>p1.asymm ((gI _ _).1 h');rw[bfq (by omega),p2,bfq (show ¬k<i by omega),bfq this]
  rfl
 intro h;refine⟨λx hx=>?_,List.pairwise_iff_getElem.2 λi j hi hj hij=>?_⟩
 ·obtain⟨i,hi,rfl⟩:=List.getElem_of_mem hx;have:=(h i hi).1
  rwa [hat i hi]at this
 have hb:=(h j hj).2 i hi;unfold zf at hb;rw[hat i hi,hat j hj,bfq (by omega),bfr hij,Bool.not_false,bgw,Bool.or_eq_false_iff]at hb
 obtain⟨b1,b2⟩:=hb;rw[mo];refine⟨(gI _ _).1 ?_,b1⟩;by_cases h':gG l[i] l[j] < 0
 ·exact h'
 rw[bfq h']at b2;cases b2
theorem Km {l:List bg} {i k:Nat}(hi:i<l.length)(hk:k<l.length)(h:zf l i k=true):decide (dD l)=false:=by
 refine bfq λhs=>?_;have:=((sH l).1 hs i hi).2 k hk;rw[h]at this;cases this
theorem CE {l:List bg} {i:Nat}(hi:i<l.length)(h:(pX l i).bB=false):decide (dD l)=false:=by
 refine bfq λhs=>?_;have:=((sH l).1 hs i hi).1;rw[h]at this;cases this
def Sa(w:World)(l:List bg)(v:Value)(wr:World):Prop:=∃i:Nat,i<=l.length/\v=.int .i64 (i:Int)/\(∀j<i,(pX l j).bB=true/\∀k<l.length,zf l j k=false)/\Bw w wr
def Sb(w:World)(l:List bg)(i:Nat)(v:Value)(wr:World):Prop:=∃k:Nat,k<=l.length/\v=.int .i64 (k:Int)/\(∀j<k,zf l i j=false)/\Bw w wr
theorem Cv(w:World)(sa:Option Addr)(sc:Nat)(l:List bg)(hA:dF w sa l)(hk:∀x∈l,x.key.length<=1000000)(hn:l.length<=1000000):
  Calls prog 76 #[.slice sa l.length sc] w (bE w (.bool (decide (dD l)))):=by
 obtain⟨n,hN⟩:=Nm (l.length);obtain⟨P,hP⟩:=Nm (bE w (.bool (decide (dD l))));rw[<-hP,<-hN];have HN:Hid (n=l.length/\n<=1000000):=Lh ⟨hN,by omega⟩
 have Tx:n<=1000000:=by omega
 have HA:=Lh hA;have HK:Hid (∀(i:Nat) (x:bg),l[i]? =some x->x.key.length<=1000000):=Lh (λi x h=>hk x (bf3 h));have SF:Hid (∀wz,decide (dD l)=false->Bw w wz->P (.returned (.bool false)) wz):=Lh (λwz h hB=>by rw[hP,h];exact⟨rfl,hB⟩)
 have Sl:Hid (∀wz,(∀j<n,(pX l j).bB=true/\∀k<n,zf l j k=false)->Bw w wz->P (.returned (.bool true)) wz):=Lh (λwz h hB=>by
  rw[hP,bfr ((sH l).2 (by rw[hN]at h;exact h))]
  exact⟨rfl,hB⟩)
 clear hN hA hk hn hP;go_enter func76,ntmps76;go_wp2_with(fail);go_loopw[9] (Sa w l) (λv _=>n-(intOf v).toNat)
 case atStart=>exact⟨0,bgi _,rfl,λj h=>absurd h (Nat.not_lt_zero _),Br⟩
 case round=>
  obtain⟨i,hi,rfl,hok,hB⟩:=hrel;rw[<-HN.out.1]at hi hok;have HO:=Lh (bfy hok hB);clear hok hB;by_cases hlt:i<n
  ·have hi0:(0:Int)<=(i:Int)/\(i:Int)<(n:Int):=by omega
   obtain⟨x,pa,oa,hx,hsa,c0,c1,c2⟩:=(HA.out.below HO.out.2).get (t:=i) (by rw[<-HN.out.1];exact hlt)
   subst hsa;have Ti:=Lh (bfy (HK.out i x hx) (bfy (fF hx) (bfy hlt hi)));obtain⟨xk,xl,xh⟩:=x;simp only at c0 c1 c2;clear hx hi hlt;go_upto_region 3 with(fail);refine bg4 ?_
   iterate 15 go_step
   refine bg6 rfl _ _ _ rfl wr.heap.size (bg.mk xk xl xh).cells rfl rfl 47 bX.cells (bg5 wr _) dh rfl (dH _) ?_;obtain⟨wx,hwx⟩:=Nm ((wr.alloc (Obj.cells #[.string ⟨#[]⟩,.int .i64 0,.int .i64 0] 47)).setRow wr.heap.size (bg.mk xk xl xh).cells);obtain⟨xb,hxb⟩:=Nm (wr.heap.size);have Sn:Hid (bZ wx xb (bg.mk xk xl xh)/\Bw wr wx):=by
    obtain⟨k1,k2⟩:=dW wr (bg.mk xk xl xh);rw[hwx,hxb];exact Lh ⟨k1,k2⟩
   rw[<-hwx,<-hxb];clear hwx hxb;clear c0 c1 c2;obtain⟨r,hr⟩:=Nm ((bg.mk xk xl xh).bB);have HR:Hid (∀w',Calls prog 70 #[.agg #[Sv xk,.int .i64 xl,.int .i64 xh]] w' (bE w' (.bool r))):=by
    rw[hr];exact Lh (λw'=>pQ w' ⟨xk,xl,xh⟩ Ti.out.1)
   have Hr:=Lh hr;have En:Hid (Bw w wx):=Lh (HO.out.2.trans (Sn.out.2.mono HO.out.2.size));clear hr;obtain⟨d0,d1,d2⟩:=Sn.out.1.d3;simp only at d0 d1 d2
   cases r with
   | false=>
    go_wp2_with(fail);refine(HR.out wx).mono ?_;rintro e w2 ⟨rfl,hB⟩;have HB:=Lh (Tb En.out hB);clear hB d0 d1 d2;dsimp only;go_wp2_with(fail);exact SF.out _ (CE (i:=i) (by rw[<-HN.out.1];exact Ti.out.2.2.1) (by rw[Ti.out.2.1];exact Hr.out.symm)) HB.out
   | true=>
    go_wp2_with(fail);refine(HR.out wx).mono ?_;rintro e w2 ⟨rfl,hB⟩;have HB2:Hid (Bw w w2/\bZ w2 xb ⟨xk,xl,xh⟩):=Lh ⟨Tb En.out hB,Sn.out.1.below hB⟩;clear hB d0 d1 d2;dsimp only;go_wp2_with(fail);go_loopw[19] (Sb w2 l i) (λv _=>n-(intOf v).toNat)
    case atStart=>exact⟨0,bgi _,rfl,λj h=>absurd h (Nat.not_lt_zero _),Br⟩
    case round=>
     obtain⟨k,hk,rfl,hok,hB⟩:=hrel;rw[<-HN.out.1]at hk;have Te:=Lh (bfy hok hB);clear hok hB;by_cases hlt:k<n
     ·have hk0:(0:Int)<=(k:Int)/\(k:Int)<(n:Int):=by omega
      obtain⟨y,pb,ob,hy,hsa,c0,c1,c2⟩:=(HA.out.below (HB2.out.1.trans (Te.out.2.mono HB2.out.1.size))).get (t:=k) (by rw[<-HN.out.1];exact hlt)
      obtain⟨rfl,rfl⟩:pb=pa/\ob=oa:=by
       simp only[bf5,Addr.mk.injEq,and_true]at hsa;exact⟨hsa.1.symm,hsa.2.symm⟩
      have EK:=Lh (bfy (HK.out k y hy) (bfy (fF hy) (bfy hlt hk)));obtain⟨yk,yl,yh⟩:=y;simp only at c0 c1 c2;clear hy hk hlt hsa;go_upto_region 8 with(fail);refine bg4 ?_
      iterate 15 go_step
      refine bg6 rfl _ _ _ rfl wr.heap.size (bg.mk yk yl yh).cells rfl rfl 47 bX.cells (bg5 wr _) dh rfl (dH _) ?_;obtain⟨wy,Sy⟩:=Nm ((wr.alloc (Obj.cells #[.string ⟨#[]⟩,.int .i64 0,.int .i64 0] 47)).setRow wr.heap.size (bg.mk yk yl yh).cells);obtain⟨yb,hyb⟩:=Nm (wr.heap.size);have TG:Hid (bZ wy yb (bg.mk yk yl yh)/\Bw wr wy):=by
       obtain⟨k1,k2⟩:=dW wr (bg.mk yk yl yh);rw[Sy,hyb];exact Lh ⟨k1,k2⟩
      rw[<-Sy,<-hyb];clear Sy hyb;clear c0 c1 c2;have TD:Hid (Bw w2 wy):=Lh (Te.out.2.trans (TG.out.2.mono Te.out.2.size));have HD:Hid (∀w',Bw wy w'->D3 w' xb xk xl xh/\D3 w' yb yk yl yh):=Lh (λw' h=>⟨((HB2.out.2.below TD.out).below h).d3,(TG.out.1.below h).d3⟩);have HZ:Hid (∀w',Bw wy w'->Bw w w'):=Lh (λw' h=>HB2.out.1.trans ((Tb TD.out h).mono HB2.out.1.size));have XK:Hid (∀w',Bw wy w'->zf l i k=false->Sb w2 l i (.int .i64 ((k:Int)+1)) w'):=by
       refine Lh (λw' h hb=>⟨k+1,?_,rfl,λj hj=>?_,Tb TD.out h⟩)
       ·have:=HN.out.1;have:=EK.out.2.2.1;omega
       by_cases e:j=k
       ·rw[e];exact hb
       exact Te.out.1 j (by omega)
      have SA:Hid (∀wz,zf l i k=true->Bw w wz->P (.returned (.bool false)) wz):=Lh (λwz h hB=>SF.out wz (Km (by rw[<-HN.out.1];exact Ti.out.2.2.1) (by rw[<-HN.out.1];exact EK.out.2.2.1) h) hB)
      have hbd:zf l i k=(!decide (k=i) && (dK ⟨xk,xl,xh⟩ ⟨yk,yl,yh⟩ || (decide (k<i) !=decide (gG ⟨yk,yl,yh⟩ ⟨xk,xl,xh⟩ < 0)))):=by
       rw[zf,Ti.out.2.1,EK.out.2.1]
      have hkn:(k:Int)<(n:Int)/\(n:Int)<=1000000:=by
       have:=HN.out.2;omega
      by_cases hki:k=i
      ·have e1:((k:Int) !=(i:Int))=false:=by rw[hki];simp
       have e2:((k:Int)==(i:Int))=true:=by rw[hki];simp
       have HG:Hid (zf l i k=false):=by
        rw[hbd,bfr hki];exact Lh rfl
       clear hbd hki;go_wp2_with(fail);go_roundw
       case rel=>exact XK.out _ Br HG.out
       case measure=>simp[intOf];omega
      have e1:((k:Int) !=(i:Int))=true:=by simpa using λh:(k:Int)=(i:Int)=>hki (by omega)
      have e2:((k:Int)==(i:Int))=false:=by simpa using λh:(k:Int)=(i:Int)=>hki (by omega)
      obtain⟨jb,hjb⟩:=Nm (dK ⟨xk,xl,xh⟩ ⟨yk,yl,yh⟩);have HJ:Hid (∀w',Calls prog 110 #[.agg #[Sv xk,.int .i64 xl,.int .i64 xh],.agg #[Sv yk,.int .i64 yl,.int .i64 yh]] w' (bE w' (.bool jb))):=by
       rw[hjb];exact Lh (λw'=>yU w' ⟨xk,xl,xh⟩ ⟨yk,yl,yh⟩ Ti.out.1 EK.out.1)
      obtain⟨p,hp⟩:=Nm (gG ⟨yk,yl,yh⟩ ⟨xk,xl,xh⟩);have VI:Hid (∀w',Calls prog 73 #[.agg #[Sv yk,.int .i64 yl,.int .i64 yh],.agg #[Sv xk,.int .i64 xl,.int .i64 xh]] w' (bE w' (.int .i64 p))):=by
       rw[hp];exact Lh (λw'=>pO w' ⟨yk,yl,yh⟩ ⟨xk,xl,xh⟩)
      rw[<-hjb,<-hp,bfq hki,Bool.not_false,bgw]at hbd;have XN:=Lh hbd;clear hjb hp hbd hki;obtain⟨⟨c0,c1,c2⟩,d0,d1,d2⟩:=HD.out wy Br
      cases jb with
      | true=>
       go_wp2_with(fail);refine(HJ.out wy).mono ?_;rintro e w4 ⟨rfl,hB⟩;have H4:=Lh (HZ.out w4 hB);clear hB c0 c1 c2 d0 d1 d2;dsimp only;go_wp2_with(fail);exact SA.out _ XN.out H4.out
      | false=>
       rw[Bool.false_or]at XN;go_wp2_with(fail);refine(HJ.out wy).mono ?_;rintro e w4 ⟨rfl,hB⟩;have H4:=Lh hB;clear hB c0 c1 c2 d0 d1 d2;obtain⟨⟨c0,c1,c2⟩,d0,d1,d2⟩:=HD.out w4 H4.out;dsimp only;by_cases h1:k<i
       ·have f1:(k:Int)<(i:Int):=by omega
        rw[bfr h1]at XN;clear h1;by_cases h2:p<0
        ·rw[bfr h2]at XN;go_wp2_with(fail);refine(VI.out w4).mono ?_;rintro e w5 ⟨rfl,hB⟩;have H5:=Lh (Tb H4.out hB);clear hB c0 c1 c2 d0 d1 d2;dsimp only;go_wp2_with(fail);go_roundw
         case rel=>exact XK.out _ H5.out XN.out
         case measure=>simp[intOf];omega
        have f2:decide (p<0)=false:=bfq h2;rw[f2]at XN;go_wp2_with(fail);refine(VI.out w4).mono ?_;rintro e w5 ⟨rfl,hB⟩;have H5:=Lh (Tb H4.out hB);clear hB c0 c1 c2 d0 d1 d2;dsimp only;go_wp2_with(fail);exact SA.out _ XN.out (HZ.out _ H5.out)
       have f1:decide ((k:Int)<(i:Int))=false:=bfq (by omega)
       have f0:decide (k<i)=false:=bfq h1;have f3:¬(k:Int)<(i:Int):=by omega
       rw[bfq h1]at XN;clear h1;by_cases h2:p<0
       ·rw[bfr h2]at XN;go_wp2_with(fail);refine(VI.out w4).mono ?_;rintro e w5 ⟨rfl,hB⟩;have H5:=Lh (Tb H4.out hB);clear hB c0 c1 c2 d0 d1 d2;dsimp only;go_wp2_with(fail);exact SA.out _ XN.out (HZ.out _ H5.out)
       have f2:decide (p<0)=false:=bfq h2;rw[f2]at XN;go_wp2_with(fail);refine(VI.out w4).mono ?_;rintro e w5 ⟨rfl,hB⟩;have H5:=Lh (Tb H4.out hB);clear hB c0 c1 c2 d0 d1 d2;dsimp only;go_wp2_with(fail);go_roundw
       case rel=>exact XK.out _ H5.out XN.out
       case measure=>simp[intOf];omega
     obtain rfl:k=n:=by omega
     have HR2:Hid (Sa w l (.int .i64 ((i:Int)+1)) wr):=by
      refine Lh ⟨i+1,?_,rfl,λj hj=>?_,HB2.out.1.trans (Te.out.2.mono HB2.out.1.size)⟩
      ·have:=HN.out.1;have:=Ti.out.2.2.1;omega
      by_cases e:j=i
      ·rw[e];exact⟨by rw[Ti.out.2.1];exact Hr.out.symm,λq hq=>Te.out.1 q (by have:=HN.out.1;omega)⟩
      have h9:=HO.out.1 j (by omega)
      rw[HN.out.1]at h9;exact h9
     have hkn:(i:Int)<(k:Int)/\(k:Int)<=1000000:=by
      have:=HN.out.2;omega
     clear hlt hk;go_wp2_with(fail);go_roundw
     case rel=>exact HR2.out
     case measure=>simp[intOf];omega
  obtain rfl:i=n:=by omega
  have HZ:Hid (P (.returned (.bool true)) wr):=Sl.out _ HO.out.1 HO.out.2;clear hlt hi;go_wp2_with(fail);exact HZ.out
theorem dF.take {w:World} {a:Option Addr} {l:List bg}(h:dF w a l)(i:Nat):dF w a (l.take i):=by
 rcases h with h | ⟨b,o,h,h'⟩
 ·left
  rw[h,List.take_nil]
 right
 refine⟨b,o,h,λj x hx=>h' j x ?_⟩;rw[List.getElem?_take]at hx
 split at hx
 ·exact hx
 cases hx
theorem dF.cut {w:World} {b o:Nat} {l:List bg}(h:dF w (some ⟨b,o,none⟩) l)(i:Nat):dF w (some ⟨b,o+i*3,none⟩) (l.drop i):=by
 rcases h with h | ⟨b',o',h,h'⟩
 ·left
  rw[h,List.drop_nil]
 right
 cases h
 refine⟨b,o+i*3,rfl,λj x hx k v hv=>?_⟩;rw[List.getElem?_drop]at hx;have:=h' (i+j) x hx k v hv
 rwa [show o+(i+j)*3+k=o+i*3+j*3+k by omega]at this
theorem xK(p:Addr):p.add 0=p:=rfl
theorem xx(w:World)(a:Option Addr)(n c i:Nat)(h:i<=c):
  (Instr.slice 84 (.slice a n c) none (some (.int .i64 (i:Int))) none).run prog w=.ok (.slice a i c) w:=by
 have hz:∀w,(sizeOf 47).run prog w=.ok 3 w:=sizeOf47;cases a <;> simp[Instr.slice,run_underlying underlying84,Instr.sliceBounds,run_sliceBound,hz,h,xK]
theorem FL(w0:World)(a:Option Addr)(l:List bg)(c i:Nat)(hA:dF w0 a l)(h:i<=l.length)(hc:l.length<=c):
  ∃a',(∀w,(Instr.slice 84 (.slice a l.length c) (some (.int .i64 (i:Int))) none none).run prog w=.ok (.slice a' (l.length-i) (c-i)) w)/\dF w0 a' (l.drop i):=by
 have hz:∀w,(sizeOf 47).run prog w=.ok 3 w:=sizeOf47
 cases a with
 | none=>
  have hl:l=[]:=by
   rcases hA with h | ⟨_,_,h,_⟩
   ·exact h
   cases h
  subst hl;obtain rfl:i=0:=by simpa using h
  exact⟨none,λw=>by simp[Instr.slice,run_underlying underlying84,Instr.sliceBounds,run_sliceBound,hz],.inl rfl⟩
 | some p=>
  obtain⟨b,o,s⟩:=p;by_cases e:c=i
  ·refine⟨some ⟨b,o,s⟩,λw=>?_,.inl (List.drop_eq_nil_of_le (by omega))⟩
   subst e;simp[Instr.slice,run_underlying underlying84,Instr.sliceBounds,run_sliceBound,hz,h]
  by_cases hn:l.length=0
  ·have hl:l=[]:=bg3 hn;subst hl;obtain rfl:i=0:=by simpa using h
   exact⟨some ⟨b,o,s⟩,λw=>by simp[Instr.slice,run_underlying underlying84,Instr.sliceBounds,run_sliceBound,hz,xK],.inl rfl⟩
  obtain rfl:s=none:=by
   rcases hA with h | ⟨_,_,h,_⟩
   ·rw[h]at hn;exact absurd rfl hn
   cases h
   rfl
  refine⟨some ⟨b,o+i*3,none⟩,λw=>?_,hA.cut i⟩;simp[Instr.slice,run_underlying underlying84,Instr.sliceBounds,run_sliceBound,hz,h,addr_add,e]
theorem cK.mono {w:World} {base base':Nat} {v:Value} {l:List bg}(h:cK w base v l)(hb:base'<=base):cK w base' v l:=by
 refine⟨h.1,?_⟩;rcases h.2 with h | ⟨g,c,cur,h1,h2,r⟩
 ·exact .inl h
 exact .inr ⟨g,c,cur,h1,bgn hb h2,r⟩
theorem cK.P8(w:World)(base:Nat)(hb:base<=w.heap.size):cK (w.alloc (.cells #[] 47)) base (.slice (some ⟨w.heap.size,0,none⟩) 0 0) []:=
 ⟨rfl,.inr ⟨w.heap.size,0,#[],rfl,hb,bg5 w _,bfx _,by decide,rfl,rfl⟩⟩
def jU(w:World)(l:List bg)(e:Ending)(w':World):Prop:=∃v,e=.returned v/\cK w' w.heap.size v l/\Bw w w'
theorem bZ.grown {w w':World} {b:Nat} {x:bg} {row:Option Nat}(h:bZ w b x)(hg:w.grownBy w' row)(hne:some b≠row):bZ w' b x:=(hg.block b h.lt hne).trans h
theorem bZ.RD {w:World} {b:Nat} {k:List (BitVec 8)} {lo hi:Int}(h:bZ w b ⟨k,lo,hi⟩)(z:Int):bZ (w.setCell ⟨b,1,none⟩ (.int .i64 z)) b ⟨k,z,hi⟩:=by
 unfold bZ at*;rw[setCell_eq_setRow w b 1 _ _ (0,0) _ h];exact setRow_heap w b _ _ _ _ h
theorem bZ.RB {w:World} {b:Nat} {k:List (BitVec 8)} {lo hi:Int}(h:bZ w b ⟨k,lo,hi⟩)(z:Int):bZ (w.setCell ⟨b,2,none⟩ (.int .i64 z)) b ⟨k,lo,z⟩:=by
 unfold bZ at*;rw[setCell_eq_setRow w b 2 _ _ (0,0) _ h];exact setRow_heap w b _ _ _ _ h
theorem bZ.reset {w:World} {b:Nat} {x:bg}(h:bZ w b x)(y:bg):bZ (w.setRow b y.cells) b y:=setRow_heap w b _ _ _ _ h
theorem bC(w:World)(b:Nat)(c:Array Value):w.grownBy (w.setRow b c) (some b):=⟨rfl,rfl,rfl,by simp[World.setRow],λk _ hne=>setRow_other _ _ _ _ (λe=>hne (by rw[e]))⟩
def nK(l:List Nat):List Value:=l.map λ(n:Nat)=>Value.int .i64 (n:Int)
def nU(w:World)(base:Nat)(v:Value)(l:List Nat):Prop:=Own w base 3 v (nK l)
theorem Qw:(prog.info? 3).map (λi=>(i.zero,i.size,i.bytes))=some (some (.int .i64 0),1,8):=by kernel_rfl
theorem vN {w:World} {B B':Nat} {v g:Value} {l:List bg} {n:List Nat}(h:cK w B v l)(h':nU w B' g n):g.ownBlock=none∨g.ownBlock≠v.ownBlock:=by
 rcases h.2 with⟨h1,_⟩ | ⟨a,c,cur,h1,_,h2,_⟩ <;> rcases h'.2 with⟨k1,_⟩ | ⟨b,d,cur',k1,_,k2,_⟩
 ·exact .inl (by rw[k1];rfl)
 ·right
  rw[h1,k1];simp[Value.ownBlock]
 ·exact .inl (by rw[k1];rfl)
 right
 rw[h1,k1];intro e;simp only[Value.ownBlock,bf5]at e;rw[e,h2]at k2;simp only[bf5,Obj.cells.injEq]at k2;exact absurd k2.2.1 (by decide)
theorem yT {w:World} {B B':Nat} {v g:Value} {l:List bg} {n:List Nat}(h:cK w B v l)(h':nU w B' g n):v.ownBlock=none∨v.ownBlock≠g.ownBlock:=by
 cases hv:v.ownBlock with
 | none=>exact .inl rfl
 | some k=>
  right
  rcases vN h h' with e | e
  ·rw[e];simp
  rw[<-hv];exact λx=>e x.symm
theorem lN {base:Nat} {w:World} {v:Value}(hl:∀k,v.ownBlock=some k->base<=k/\k<w.heap.size) {b:Nat}(hb:b<base):some b≠v.ownBlock:=λe=>by
 have:=hl b e.symm;omega
def lW(w:World)(B b1 b2 b3:Nat)(x y:bg)(v:Value)(out:List bg)(g:Value)(gv:List Nat)(wr:World):Prop:=
 (w.heap.size<=b1/\b1<b2/\b2<b3/\b3<B/\B<=wr.heap.size)/\Bw w wr/\bZ wr b1 x/\bZ wr b2 bX/\bZ wr b3 y/\cK wr B v out/\nU wr B g gv
theorem lW.below {w:World} {B b1 b2 b3:Nat} {x y:bg} {v:Value} {out:List bg} {g:Value} {gv:List Nat} {wr wz:World}(h:lW w B b1 b2 b3 x y v out g gv wr)(hB:Bw wr wz):lW w B b1 b2 b3 x y v out g gv wz:=by
 obtain⟨⟨a1,a2,a3,a4,a5⟩,h1,h2,h3,h4,h5,h6⟩:=h;exact⟨⟨a1,a2,a3,a4,bgn a5 hB.size⟩,Tb h1 hB,h2.below hB,h3.below hB,h4.below hB,h5.far hB,h6.far hB⟩
theorem lW.GY {w:World} {B b1 b2 b3:Nat} {x y:bg} {v v':Value} {out out':List bg} {g:Value} {gv:List Nat} {wr wz:World}(h:lW w B b1 b2 b3 x y v out g gv wr)(ho:cK wz B v' out')(hg:wr.grownBy wz v.ownBlock):lW w B b1 b2 b3 x y v' out' g gv wz:=by
 obtain⟨⟨a1,a2,a3,a4,a5⟩,h1,h2,h3,h4,h5,h6⟩:=h;have hl:∀k,v.ownBlock=some k->B<=k/\k<wr.heap.size:=λk hk=>h5.lt hk;have hBl:=h5.below hg a5;exact⟨⟨a1,a2,a3,a4,bgn a5 hg.size⟩,h1.trans (hBl.mono (by omega)),h2.grown hg (lN hl (by omega)),h3.grown hg (lN hl (by omega)),h4.grown hg (lN hl (by omega)),ho,h6.kept hg (vN h5 h6)⟩
theorem lW.Pm {w:World} {B b1 b2 b3:Nat} {x y:bg} {v:Value} {out:List bg} {g g':Value} {gv uK:List Nat} {wr wz:World}(h:lW w B b1 b2 b3 x y v out g gv wr)(ho:nU wz B g' uK)(hg:wr.grownBy wz g.ownBlock):lW w B b1 b2 b3 x y v out g' uK wz:=by
 obtain⟨⟨a1,a2,a3,a4,a5⟩,h1,h2,h3,h4,h5,h6⟩:=h;have hl:∀k,g.ownBlock=some k->B<=k/\k<wr.heap.size:=λk hk=>Own.lt h6 hk;have hBl:Below B wr wz:=⟨hg.os,hg.tape,hg.output,hg.size,λk hk=>hg.block k (by omega) (lN hl hk)⟩
 exact⟨⟨a1,a2,a3,a4,bgn a5 hg.size⟩,h1.trans (hBl.mono (by omega)),h2.grown hg (lN hl (by omega)),h3.grown hg (lN hl (by omega)),h4.grown hg (lN hl (by omega)),h5.kept hg (yT h5 h6),ho⟩
theorem lW.set {w:World} {B b1 b2 b3:Nat} {x y y':bg} {v:Value} {out:List bg} {g:Value} {gv:List Nat} {wr wz:World}(h:lW w B b1 b2 b3 x y v out g gv wr)(ho:bZ wz b3 y')(hg:wr.grownBy wz (some b3)):lW w B b1 b2 b3 x y' v out g gv wz:=by
 obtain⟨⟨a1,a2,a3,a4,a5⟩,h1,h2,h3,h4,h5,h6⟩:=h;have n5:v.ownBlock≠some b3:=λe=>by have:=h5.lt e;omega
 have n6:g.ownBlock≠some b3:=λe=>by have:=Own.lt h6 e;omega
 have hBl:Below w.heap.size wr wz:=⟨hg.os,hg.tape,hg.output,hg.size,λk hk=>hg.block k (by omega) (by simp;omega)⟩
 exact⟨⟨a1,a2,a3,a4,bgn a5 hg.size⟩,h1.trans hBl,h2.grown hg (by simp;omega),h3.grown hg (by simp;omega),ho,h5.kept hg (.inr n5),h6.kept hg (.inr n6)⟩
def V4(Vs:List Value)(i1:Nat)(A1:Nat->World->Value->Prop)(i2:Nat)(A2:Nat->World->Value->Prop)(i3:Nat)(A3:Nat->World->Value->Prop)(i4:Nat)(A4:Nat->World->Value->Prop)(i k:Nat)(w:World)(v:Value):Prop:=
 cond (Nat.beq i i1) (A1 k w v) (cond (Nat.beq i i2) (A2 k w v) (cond (Nat.beq i i3) (A3 k w v) (cond (Nat.beq i i4) (A4 k w v) (v=Vs.getD i undef))))
theorem qm {Vs:List Value} {i1 i2 i3 i4:Nat} {A1 A2 A3 A4:Nat->World->Value->Prop}(le:World->World->Prop)(h1:∀k w w' v,le w w'->A1 k w v->A1 k w' v)(h2:∀k w w' v,le w w'->A2 k w v->A2 k w' v)
  (h3:∀k w w' v,le w w'->A3 k w v->A3 k w' v) (h4:∀k w w' v,le w w'->A4 k w v->A4 k w' v):∀i k w w' v,le w w'->V4 Vs i1 A1 i2 A2 i3 A3 i4 A4 i k w v->V4 Vs i1 A1 i2 A2 i3 A3 i4 A4 i k w' v:=by
 intro i k w w' v hl;unfold V4;cases Nat.beq i i1
 ·cases Nat.beq i i2
  ·cases Nat.beq i i3
   ·cases Nat.beq i i4
    ·exact id
    exact h4 _ _ _ _ hl
   exact h3 _ _ _ _ hl
  exact h2 _ _ _ _ hl
 exact h1 _ _ _ _ hl
theorem jq {Vs:List Value} {i1 i2 i3 i4:Nat} {A1 A2 A3 A4:Nat->World->Value->Prop} {i k k':Nat} {w w':World}(h1:i=i1∨∀u,A1 k w u->A1 k' w' u)(h2:i=i2∨∀u,A2 k w u->A2 k' w' u)
  (h3:i=i3∨∀u,A3 k w u->A3 k' w' u) (h4:i=i4∨∀u,A4 k w u->A4 k' w' u):∀j u,j≠i->V4 Vs i1 A1 i2 A2 i3 A3 i4 A4 j k w u->V4 Vs i1 A1 i2 A2 i3 A3 i4 A4 j k' w' u:=by
 intro j u hj;have key:∀(q:Nat) (A:Nat->World->Value->Prop),(i=q∨∀u,A k w u->A k' w' u)->Nat.beq j q=true->A k w u->A k' w' u:=λq A h hb ha=>by
  rcases h with h | h
  ·exact absurd ((Nat.eq_of_beq_eq_true hb).trans h.symm) hj
  exact h u ha
 unfold V4;cases e1:Nat.beq j i1
 ·cases e2:Nat.beq j i2
  ·cases e3:Nat.beq j i3
   ·cases e4:Nat.beq j i4
    ·exact id
    exact key i4 A4 h4 e4
   exact key i3 A3 h3 e3
  exact key i2 A2 h2 e2
 exact key i1 A1 h1 e1
theorem bZ.qi {w:World} {b:Nat} {x:bg}(h:bZ w b x)(i:Nat):w.frozen? ⟨b,i,none⟩=false:=by
 unfold bZ at h;simp[World.frozen?,h]
theorem za {o:Oper} {a:Act} {w:World} {K:Act->World->Prop} {Q:Exit->Act->World->Prop}(y:Operand)(ho:o.op=.buildSlice 84 1 #[(0,y)])(x:bg)(hy:a.eval y=.agg x.cells)
  (h:K (a.put o.dst (.slice (some ⟨w.heap.size,0,none⟩) 1 1)) (w.alloc (.cells x.cells 47))):o.wp prog a w K Q:=by
 have hF:Instr.fill (λi=>some (i*3,3)) ((Array.range (1*3)).map ((Value.agg #[.string ⟨#[]⟩,.int .i64 0,.int .i64 0]).cells[· % (Value.agg #[.string ⟨#[]⟩,.int .i64 0,.int .i64 0]).cells.size]!)) [(0,.agg x.cells)]=some x.cells:=by kernel_rfl
 obtain⟨i,hi,hz0,hz1,hz2⟩:=info_parts mW;refine wp_buildSlice 84 47 1 _ ho x.cells i _ underlying84 hi hz0 (by rw[hz1];decide) (by rw[hz1];decide) ?_ h
 rw[hz1];simp only[bgb,bgc,bge,hy];exact hF
theorem dF.one {w:World} {g:Nat} {y:bg}(h:∀j z,y.cells[j]? =some z->w.cell? ⟨g,j,none⟩=some z):dF w (some ⟨g,0,none⟩) [y]:=by
 refine .inr ⟨g,0,rfl,λi x hx j v hv=>?_⟩
 cases i with
 | zero=>
  simp only[bgp,bf5]at hx;subst hx;rw[show 0+0*3+j=j by omega]
  exact h j v hv
 | succ i=>simp at hx
theorem KD {o:Oper} {a:Act} {w:World} {K:Act->World->Prop} {Q:Exit->Act->World->Prop}(s x:Operand)
  (ho:o.op=.call { callee:=.builtin .append,args:=#[s,x],argTypes:=#[84,84] }) (base:Nat) (v:Value) (l1 l2:List bg) (hs:a.eval s=v) (hown:cK w base v l1)
  (sa:Option Addr) (c n:Nat) (hn:n=l2.length) (hx:a.eval x=.slice sa n c) (hm:dF w sa l2) (hl:l1.length+l2.length<=1000000) (hb:base<=w.heap.size)
  (h:∀v' w',cK w' base v' (l1++l2)->w.grownBy w' v.ownBlock->(v'.ownBlock=v.ownBlock∨v'.ownBlock=some w.heap.size)->K (a.put o.dst v') w'):o.wp prog a w K Q:=by
 subst hn;obtain⟨v',w',hr,h2,h3,h4⟩:=yx w base v l1 l2 hown sa c hm hl hb o.type;unfold Oper.wp execOp;simp only[ho,resolve,invoke,builtin,Sem.run_bind,Sem.run_pure,Result.andThen_ok,bgb,bgc,bge,hs,hx,hr];exact h v' w' h2 h3 h4
theorem tZ {o:Oper} {a:Act} {w:World} {K:Act->World->Prop} {Q:Exit->Act->World->Prop}(x y:Operand)(ho:o.op=.store 47 x y)(g:Nat)(u old:bg)
  (hx:a.eval x=.pointer (some ⟨g,0,none⟩)) (hy:a.eval y=.agg u.cells) (hg:bZ w g old) (h:K (a.put o.dst undef) (w.setRow g u.cells)):o.wp prog a w K Q:=
 wp_store_row _ x y ho g u.cells hx hy _ old.cells hg dh rfl (dH u) h
theorem jE {P:Program} {fn:Func} {s p u:Tmp} {ty:TypeId}(h:fn.results=#[.tmp s,.cell p ty,.tmp u])(tmps:Array Value)(w:World)(g:Nat)(t:TypeId)(cs:Array Value)(fr:Nat × Nat)(d:TypeDesc)
  (hp:tmps.getD p undef=.pointer (some ⟨g,0,none⟩)) (hg:w.heap[g]? =some (.cells cs t fr))
  (hu:P.underlying ty=some d) (hd:(match d with | .struct _ | .array _ _=>true | _=>false)=true) (hi:(P.info? ty).map (·.size)=some cs.size):
  (results fn tmps).run P w=.ok (.tuple #[tmps.getD s undef,.agg cs,tmps.getD u undef]) w:=by
 have hp':tmps[p]?.getD undef=.pointer (some ⟨g,0,none⟩):=by simpa using hp
 simp[results,h,hp',asAddr,run_loadVar_row w g t ty cs fr d hg hu hd hi]
def rM(a b:bg):Bool:=decide (a.key=b.key/\a.lo<=b.hi/\b.lo<=a.hi)
theorem GL(a b:bg):dK a b=(a.bB && b.bB && rM a b):=rfl
def vC(a b:bg):Bool:=decide (gG a b<0) && !rM a b
def rD(a b:bg):bg:=⟨a.key,min a.lo b.lo,max a.hi b.hi⟩
theorem Du(w:World)(x y:bg):
  Calls prog 114 #[.agg x.cells,.agg y.cells] w (bE w (.bool (rM x y))):=by
 obtain⟨r,hr⟩:=Nm (rM x y);rw[<-hr];obtain⟨w1,hw1⟩:=Nm ((w.alloc (.cells x.cells 47)).alloc (.cells y.cells 47));obtain⟨xb,hxb⟩:=Nm (w.heap.size);obtain⟨yb,hyb⟩:=Nm (w.heap.size+1);have H1:Hid (Bw w w1):=by rw[hw1];exact Lh (lu w x y).1
 have HD:Hid (∀w',Bw w1 w'->D3 w' xb x.key x.lo x.hi/\D3 w' yb y.key y.lo y.hi):=by
  rw[hw1,hxb,hyb];exact Lh (lu w x y).2
 unfold rM at hr;obtain⟨xk,xl,xh⟩:=x;obtain⟨yk,yl,yh⟩:=y;unfold bg.cells at hw1 ⊢;simp only at HD hr;have hsz:(w.alloc (.cells #[Sv xk,.int .i64 xl,.int .i64 xh] 47)).heap.size=w.heap.size+1:=bq w _;obtain⟨⟨c0,c1,c2⟩,d0,d1,d2⟩:=HD.out w1 Br;obtain⟨ke,hke⟩:=Nm (decide (xk=yk));have OP:∀w,(binOp .eql 9 (Sv xk) (Sv yk)).run prog w=.ok (.bool ke) w:=λw=>by rw[hke];exact qZ w xk yk
 have Hr:=Lh (bfy hr hke);clear hr hke
 cases ke with
 | false=>
  obtain rfl:r=false:=by
   rw[Hr.out.1];refine bfq λh=>?_;have:=of_decide_eq_false Hr.out.2.symm;exact this h.1
  go_enter func114,ntmps114;go_upto_region 1 with(fail);rw[<-hw1,<-hyb,<-hxb];clear hw1 hxb hyb;go_wp2_with(fail);go_ret;exact⟨rfl,H1.out⟩
 | true=>
  have hk:xk=yk:=bgh Hr.out.2.symm;have hr':r=decide (xl<=yh/\yl<=xh):=by
   rw[Hr.out.1];exact decide_eq_decide.2 ⟨λh=>h.2,λh=>⟨hk,h⟩⟩
  clear hk;by_cases h1:xl<=yh
  ·by_cases h2:yl<=xh
   ·obtain rfl:r=true:=by rw[hr'];exact bfr ⟨h1,h2⟩
    clear hr';go_enter func114,ntmps114;go_upto_region 1 with(fail);rw[<-hw1,<-hyb,<-hxb];clear hw1 hxb hyb;go_wp2_with(fail);go_ret;exact⟨rfl,H1.out⟩
   have e2:decide (yl<=xh)=false:=bfq h2;obtain rfl:r=false:=by rw[hr'];exact bfq (λh=>h2 h.2)
   clear hr' h2;go_enter func114,ntmps114;go_upto_region 1 with(fail);rw[<-hw1,<-hyb,<-hxb];clear hw1 hxb hyb;go_wp2_with(fail);go_ret;exact⟨rfl,H1.out⟩
  have e1:decide (xl<=yh)=false:=bfq h1;obtain rfl:r=false:=by rw[hr'];exact bfq (λh=>h1 h.1)
  clear hr' h1;go_enter func114,ntmps114;go_upto_region 1 with(fail);rw[<-hw1,<-hyb,<-hxb];clear hw1 hxb hyb;go_wp2_with(fail);go_ret;exact⟨rfl,H1.out⟩
theorem Kk(w:World)(x y:bg):
  Calls prog 88 #[.agg x.cells,.agg y.cells] w (bE w (.bool (vC x y))):=by
 obtain⟨r,hr⟩:=Nm (vC x y);rw[<-hr];obtain⟨w1,hw1⟩:=Nm ((w.alloc (.cells x.cells 47)).alloc (.cells y.cells 47));obtain⟨xb,hxb⟩:=Nm (w.heap.size);obtain⟨yb,hyb⟩:=Nm (w.heap.size+1);have H1:Hid (Bw w w1):=by rw[hw1];exact Lh (lu w x y).1
 have HD:Hid (∀w',Bw w1 w'->D3 w' xb x.key x.lo x.hi/\D3 w' yb y.key y.lo y.hi):=by
  rw[hw1,hxb,hyb];exact Lh (lu w x y).2
 obtain⟨p,hp⟩:=Nm (gG x y);obtain⟨m,hm⟩:=Nm (rM x y);have HP:Hid (∀w',Calls prog 54 #[.agg x.cells,.agg y.cells] w' (bE w' (.int .i64 p))):=by
  rw[hp];exact Lh (λw'=>nR w' x y)
 have HM:Hid (∀w',Calls prog 114 #[.agg x.cells,.agg y.cells] w' (bE w' (.bool m))):=by
  rw[hm];exact Lh (λw'=>Du w' x y)
 unfold vC at hr;rw[<-hp,<-hm]at hr;clear hp hm;obtain⟨xk,xl,xh⟩:=x;obtain⟨yk,yl,yh⟩:=y;unfold bg.cells at hw1 HP HM ⊢;simp only at HD;have hsz:(w.alloc (.cells #[Sv xk,.int .i64 xl,.int .i64 xh] 47)).heap.size=w.heap.size+1:=bq w _;obtain⟨⟨c0,c1,c2⟩,d0,d1,d2⟩:=HD.out w1 Br;by_cases h:p<0
 ·obtain rfl:r=!m:=by rw[hr,bfr h];rfl
  clear hr;go_enter func88,ntmps88;go_upto_region 1 with(fail);rw[<-hw1,<-hyb,<-hxb];clear hw1 hxb hyb;go_wp2_with(fail);refine(HP.out w1).mono ?_;rintro e w3 ⟨rfl,hB⟩;have HB:=Lh hB;clear hB c0 c1 c2 d0 d1 d2;obtain⟨⟨c0,c1,c2⟩,d0,d1,d2⟩:=HD.out w3 HB.out;dsimp only;go_wp2_with(fail);refine(HM.out w3).mono ?_;rintro e w4 ⟨rfl,hB⟩;have X3:=Lh (H1.out.trans ((Tb HB.out hB).mono H1.out.size));clear hB c0 c1 c2 d0 d1 d2;dsimp only;go_wp2_with(fail);go_ret;exact⟨rfl,X3.out⟩
 have h':decide (p<0)=false:=bfq h;obtain rfl:r=false:=by rw[hr,h'];rfl
 clear hr h;go_enter func88,ntmps88;go_upto_region 1 with(fail);rw[<-hw1,<-hyb,<-hxb];clear hw1 hxb hyb;go_wp2_with(fail);refine(HP.out w1).mono ?_;rintro e w3 ⟨rfl,hB⟩;have HB:=Lh (Tb H1.out hB);clear hB c0 c1 c2 d0 d1 d2;dsimp only;go_wp2_with(fail);go_ret;exact⟨rfl,HB.out⟩
theorem MZ(a b:bg):(rD a b).lo=if b.lo<a.lo then b.lo else a.lo:=by
 simp only[rD]
 split <;> omega
theorem MX(a b:bg):(rD a b).hi=if a.hi<b.hi then b.hi else a.hi:=by
 simp only[rD]
 split <;> omega
theorem Kw(w:World)(x y:bg):
  Calls prog 119 #[.agg x.cells,.agg y.cells] w (bE w (.agg (rD x y).cells)):=by
 obtain⟨r,hr⟩:=Nm (rD x y);have h1:r.lo=if y.lo<x.lo then y.lo else x.lo:=by rw[hr,MZ]
 have h2:r.hi=if x.hi<y.hi then y.hi else x.hi:=by rw[hr,MX]
 have h0:r.key=x.key:=by rw[hr];rfl
 rw[<-hr];clear hr;obtain⟨w1,hw1⟩:=Nm ((w.alloc (.cells x.cells 47)).alloc (.cells y.cells 47));obtain⟨xb,hxb⟩:=Nm (w.heap.size);obtain⟨yb,hyb⟩:=Nm (w.heap.size+1);have H1:Hid (Bw w w1):=by rw[hw1];exact Lh (lu w x y).1
 have HD:Hid (∀w',Bw w1 w'->D3 w' xb x.key x.lo x.hi/\D3 w' yb y.key y.lo y.hi):=by
  rw[hw1,hxb,hyb];exact Lh (lu w x y).2
 obtain⟨w2,hw2⟩:=Nm (w1.alloc (.cells #[.string ⟨#[]⟩,.int .i64 0,.int .i64 0] 47));obtain⟨rb,hrb⟩:=Nm (w.heap.size+1+1);have hs1:w1.heap.size=w.heap.size+1+1:=by rw[hw1,bq,bq]
 have H2:Hid (bZ w2 rb bX/\Bw w1 w2/\w.heap.size<=rb/\w1.heap.size<=rb):=by
  rw[hw2,hrb,<-hs1];exact Lh ⟨bg5 w1 _,(Below.refl _ w1).alloc (bfx _) _,by omega,bfx _⟩
 obtain⟨xk,xl,xh⟩:=x;obtain⟨yk,yl,yh⟩:=y;obtain⟨rk,rl,rh⟩:=r;simp only at HD h0 h1 h2;subst h0;have Hr:=Lh (bfy h1 h2);have HS:Hid (bZ (w2.setRow rb (bg.mk rk rl rh).cells) rb ⟨rk,rl,rh⟩/\Bw w (w2.setRow rb (bg.mk rk rl rh).cells)):=by
  obtain⟨k1,k2,k3,k4⟩:=H2.out;have hz:Below w.heap.size w2 (w2.setRow rb (bg.mk rk rl rh).cells):=⟨rfl,rfl,rfl,by simp[World.setRow],λk hk=>setRow_other _ _ _ _ (by omega)⟩
  exact Lh ⟨setRow_heap _ _ _ _ _ _ k1,(Tb H1.out k2).trans hz⟩
 unfold bg.cells at hw1 ⊢;have hsz:(w.alloc (.cells #[Sv rk,.int .i64 xl,.int .i64 xh] 47)).heap.size=w.heap.size+1:=bq w _;obtain⟨⟨c0,c1,c2⟩,d0,d1,d2⟩:=HD.out w2 H2.out.2.1;clear h1 h2;have hs1':((w.alloc (.cells #[Sv rk,.int .i64 xl,.int .i64 xh] 47)).alloc (.cells #[Sv yk,.int .i64 yl,.int .i64 yh] 47)).heap.size=w.heap.size+1+1:=by rw[<-hw1];exact hs1
 clear hs1;go_enter func119,ntmps119;go_upto_region 1 with(fail);rw[<-hw1,<-hw2,<-hrb,<-hyb,<-hxb];clear hw1 hw2 hrb hxb hyb;refine bg4 ?_
 iterate 36 go_step
 rw[<-Hr.out.1,<-Hr.out.2];refine dm (by kernel_rfl) 47 _ rfl (bg.mk rk rl rh).cells (by simp only[bgb,bgc,bge];exact lF rk rl rh) ?_
 refine bg6 rfl _ _ _ rfl rb (bg.mk rk rl rh).cells rfl rfl 47 bX.cells H2.out.1 dh rfl (dH _) ?_;obtain⟨w3,hw3⟩:=Nm (w2.setRow rb (bg.mk rk rl rh).cells);rw[<-hw3]at HS ⊢;clear hw3 c0 c1 c2 d0 d1 d2;go_wp2_with(fail);exact bodyPost_ret (v:=.agg #[Sv rk,.int .i64 rl,.int .i64 rh]) (results_cell_row (p:=4) (ty:=47) rfl _ _ rb 47 #[Sv rk,.int .i64 rl,.int .i64 rh] (0,0) _ rfl HS.out.1 underlying47 rfl dh) rfl ⟨rfl,HS.out.2⟩
theorem qP(x:bg)(l:List bg):cZ (x::l)=Sv x.key::.int .i64 x.lo::.int .i64 x.hi::cZ l:=rfl
theorem yC:∀(l:List bg) (i:Nat) (x:bg),i<l.length->(cZ l).take (i*3)++x.cells.toList++(cZ l).drop (i*3+3)=cZ (l.set i x)
 | [],_,_,h=>by simp at h
 | y::l,0,x,_=>by
  rw[qP];rfl
 | y::l,i+1,x,h=>by
  have ih:=yC l i x (by simpa using h)
  rw[qP,show(i+1)*3=i*3+1+1+1 by omega,bfu,qP,<-ih]
  simp
theorem Qi {o:Oper} {a:Act} {w:World} {K:Act->World->Prop} {Q:Exit->Act->World->Prop}(x y:Operand)(ho:o.op=.store 47 x y) {base g c n i:Nat} {l:List bg}(u:bg)
  (hown:cK w base (.slice (some ⟨g,0,none⟩) n c) l) (hn:n=l.length) (hi:i<n) (hx:a.eval x=.pointer (some ⟨g,i*3,none⟩)) (hy:a.eval y=.agg u.cells)
  (h:∀w',cK w' base (.slice (some ⟨g,0,none⟩) n c) (l.set i u)->w.grownBy w' (some g)->K (a.put o.dst undef) w'):o.wp prog a w K Q:=by
 subst hn;rcases hown.2 with⟨h',_⟩ | ⟨g',cap',cur,h',hb,hg,hnc,hcm,hcs,htake⟩
 ·simp at h'
 simp only[Value.slice.injEq,bf5,Addr.mk.injEq,and_true,true_and]at h';obtain⟨rfl,rfl⟩:=h';have hfit:i*3+u.cells.toList.length<=cur.size:=by
  have:u.cells.toList.length=3:=rfl;omega
 have hst:=run_storeCells_at prog g (i*3) 47 u.cells.toList 0 cur w hg (by simpa using hfit) (λv hv=>Array.all_eq_true'.1 (dH u) v (by simpa using hv))
 have hrun:(storeVar 47 ⟨g,i*3,none⟩ (.agg u.cells)).run prog w=.ok () (w.setRow g (cur.toList.take (i*3)++u.cells.toList++cur.toList.drop (i*3+u.cells.toList.length)).toArray):=by
  have hs:∀w,(sizeOf 47).run prog w=.ok 3 w:=sizeOf47;have h3:u.cells.size=3:=rfl;simpa[storeVar,hs,Value.cells,h3]using hst
 unfold Oper.wp execOp;simp only[ho,hx,hy,Instr.storeAt,Instr.sureAddr,Sem.run_bind,Sem.run_pure,Result.andThen_ok,hrun];refine h _ ⟨?_,.inr ⟨g,c,_,by rw[List.length_set],hb,setRow_heap w g _ _ _ _ hg,by rw[List.length_set];exact hnc,hcm,?_,?_⟩⟩ (bC _ _ _)
 ·rw[fJ]
 ·have h3:u.cells.size=3:=rfl;simp only[List.size_toArray,bft,bga,bgx,bgq];omega
 have h3:u.cells.toList.length=3:=rfl;have hL:(cZ l).length=l.length*3:=fJ l;rw[List.length_set,<-yC l i u hi,h3,List.take_append];have e1:(cur.toList.take (i*3)++u.cells.toList).length=i*3+3:=by
  rw[bft,bga,h3,bgq];omega
 rw[e1,List.take_of_length_le (by omega),<-htake,List.take_take,Nat.min_eq_left (by omega),List.drop_take]
theorem M3 {P:Program} {o:Oper} {a:Act} {w:World} {K:Act->World->Prop} {Q:Exit->Act->World->Prop} {ty:TypeId}(x y:Operand)(ho:o.op=.store ty x y)
  (A:Addr) (v u:Value) (hx:a.eval x=.pointer (some A)) (hy:a.eval y=v) (hv:v.cells=#[v]) (h1:v.oneCell'=true) (hs:∀w,(sizeOf ty).run P w=.ok 1 w)
  (hc:w.cell? A=some u) (hf:w.frozen? A=false) (h:K (a.put o.dst undef) (w.setCell A v)):o.wp P a w K Q:=by
 unfold Oper.wp execOp;simp only[ho,hx,hy,Sem.run_bind,Sem.run_pure,Result.andThen_ok,rO hv h1 hs hc hf];exact h
end Go.Proofs.YtjeeghafachebaaGreat
