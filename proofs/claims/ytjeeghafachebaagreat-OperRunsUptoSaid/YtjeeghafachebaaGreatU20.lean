/-
  20.
-/
import Derived.Test.YtjeeghafachebaaGreatU15
set_option maxRecDepth 100000
set_option maxHeartbeats 2000000
namespace Go.Proofs.YtjeeghafachebaaGreat
open Go Go.RowKit Go.Proofs.Tryz
theorem lm {kind size slide late agg k:Int}(h:kind<1∨3<kind∨size<1∨1073741824<size∨late<0∨1073741824<late∨agg<1∨7<agg):(bz.mk kind size slide late agg k).bB=false:=by
 cases hr:(bz.mk kind size slide late agg k).bB with
 | false=>rfl
 | true=>
  obtain⟨h1,h2,h3,_,_,h6,_,_⟩:=gU hr;simp only at h1 h2 h3 h6;omega
theorem Mx {kind size slide late agg k:Int}(h:1<=kind/\kind<=3/\1<=size/\size<=1073741824/\0<=late/\late<=1073741824/\1<=agg/\agg<=7):
  (bz.mk kind size slide late agg k).bB=((if kind=2 then decide (1<=slide/\slide<=size/\size<=16*slide)else decide (slide=0)) && (if agg=6 then decide (1<=k/\k<=8)else decide (k=0))):=by
 unfold bz.bB bz.KA bz.Gc;simp only;rw[bfr (show 1<=size/\size<=1073741824 by omega),bfr (show 0<=late/\late<=1073741824 by omega),bgw,Bool.and_true]
 congr 1
 ·split
  ·rfl
  exact decide_eq_decide.2 ⟨λh=>h.2,λh=>⟨by omega,h⟩⟩
 split
 ·rfl
 exact decide_eq_decide.2 ⟨λh=>h.2.2,λh=>⟨by omega,by omega,h⟩⟩
theorem su(w:World)(q:bz):Calls prog 14 #[.agg q.cells] w (bE w (.bool q.bB)):=by
 obtain⟨kind,size,slide,late,agg,k⟩:=q;obtain⟨r,hr⟩:=Nm ((bz.mk kind size slide late agg k).bB);rw[<-hr];unfold bz.cells;by_cases t0:kind<1
 ·obtain rfl:r=false:=by rw[hr,lm (by omega)]
  clear hr;go_enter func14,ntmps14;go_wp2_with(fail);go_ret;exact⟨rfl,(Below.refl _ w).alloc (bfx _) _⟩
 by_cases t1:3<kind
 ·obtain rfl:r=false:=by rw[hr,lm (by omega)]
  clear hr;go_enter func14,ntmps14;go_wp2_with(fail);go_ret;exact⟨rfl,(Below.refl _ w).alloc (bfx _) _⟩
 by_cases t2:size<1
 ·obtain rfl:r=false:=by rw[hr,lm (by omega)]
  clear hr;go_enter func14,ntmps14;go_wp2_with(fail);go_ret;exact⟨rfl,(Below.refl _ w).alloc (bfx _) _⟩
 by_cases t3:1073741824<size
 ·obtain rfl:r=false:=by rw[hr,lm (by omega)]
  clear hr;go_enter func14,ntmps14;go_wp2_with(fail);go_ret;exact⟨rfl,(Below.refl _ w).alloc (bfx _) _⟩
 by_cases t4:late<0
 ·obtain rfl:r=false:=by rw[hr,lm (by omega)]
  clear hr;go_enter func14,ntmps14;go_wp2_with(fail);go_ret;exact⟨rfl,(Below.refl _ w).alloc (bfx _) _⟩
 by_cases t5:1073741824<late
 ·obtain rfl:r=false:=by rw[hr,lm (by omega)]
  clear hr;go_enter func14,ntmps14;go_wp2_with(fail);go_ret;exact⟨rfl,(Below.refl _ w).alloc (bfx _) _⟩
 by_cases t6:agg<1
 ·obtain rfl:r=false:=by rw[hr,lm (by omega)]
  clear hr;go_enter func14,ntmps14;go_wp2_with(fail);go_ret;exact⟨rfl,(Below.refl _ w).alloc (bfx _) _⟩
 by_cases t7:7<agg
 ·obtain rfl:r=false:=by rw[hr,lm (by omega)]
  clear hr;go_enter func14,ntmps14;go_wp2_with(fail);go_ret;exact⟨rfl,(Below.refl _ w).alloc (bfx _) _⟩
 rw[Mx (by omega)]at hr
 by_cases k2:kind=2
 ·subst k2;rw[if_pos rfl]at hr;by_cases s3:slide<1
  ·obtain rfl:r=false:=by rw[hr,bfq (by omega),Bool.false_and]
   clear hr;go_enter func14,ntmps14;go_wp2_with(fail);go_ret;exact⟨rfl,(Below.refl _ w).alloc (bfx _) _⟩
  by_cases s4:size<slide
  ·obtain rfl:r=false:=by rw[hr,bfq (by omega),Bool.false_and]
   clear hr;go_enter func14,ntmps14;go_wp2_with(fail);go_ret;exact⟨rfl,(Below.refl _ w).alloc (bfx _) _⟩
  by_cases s5:16*slide<size
  ·obtain rfl:r=false:=by rw[hr,bfq (by omega),Bool.false_and]
   clear hr;go_enter func14,ntmps14;go_wp2_with(fail);go_ret;exact⟨rfl,(Below.refl _ w).alloc (bfx _) _⟩
  rw[bfr (by omega),bgw]at hr
  by_cases a6:agg=6
  ·subst a6;rw[if_pos rfl]at hr;by_cases s0:k<1
   ·obtain rfl:r=false:=by rw[hr,bfq (by omega)]
    clear hr;have d0:decide ((1:Int)<=k)=false:=bfq (by omega)
    go_enter func14,ntmps14;go_wp2_with(fail);go_ret;exact⟨rfl,(Below.refl _ w).alloc (bfx _) _⟩
   have d0:decide ((1:Int)<=k)=true:=bfr (by omega)
   by_cases s1:8<k
   ·obtain rfl:r=false:=by rw[hr,bfq (by omega)]
    clear hr;have d1:decide (k<=(8:Int))=false:=bfq (by omega)
    go_enter func14,ntmps14;go_wp2_with(fail);go_ret;exact⟨rfl,(Below.refl _ w).alloc (bfx _) _⟩
   obtain rfl:r=true:=by rw[hr,bfr (by omega)]
   clear hr;have d1:decide (k<=(8:Int))=true:=bfr (by omega)
   go_enter func14,ntmps14;go_wp2_with(fail);go_ret;exact⟨rfl,(Below.refl _ w).alloc (bfx _) _⟩
  rw[if_neg a6]at hr;have e6:(agg==6)=false:=by simpa using a6
  by_cases s2:k=0
  ·subst s2;obtain rfl:r=true:=by rw[hr,bfr (by omega)]
   clear hr a6;go_enter func14,ntmps14;go_wp2_with(fail);go_ret;exact⟨rfl,(Below.refl _ w).alloc (bfx _) _⟩
  obtain rfl:r=false:=by rw[hr,bfq (by omega)]
  have e0:(k==0)=false:=by simpa using s2
  clear hr a6 s2;go_enter func14,ntmps14;go_wp2_with(fail);go_ret;exact⟨rfl,(Below.refl _ w).alloc (bfx _) _⟩
 rw[if_neg k2]at hr;have e2:(kind==2)=false:=by simpa using k2
 have e2n:(kind !=2)=true:=by simpa using k2
 by_cases s3:slide=0
 ·subst s3;rw[bfr rfl,bgw]at hr;clear k2;by_cases a6:agg=6
  ·subst a6;rw[if_pos rfl]at hr;by_cases s0:k<1
   ·obtain rfl:r=false:=by rw[hr,bfq (by omega)]
    clear hr;have d0:decide ((1:Int)<=k)=false:=bfq (by omega)
    go_enter func14,ntmps14;go_wp2_with(fail);go_ret;exact⟨rfl,(Below.refl _ w).alloc (bfx _) _⟩
   have d0:decide ((1:Int)<=k)=true:=bfr (by omega)
   by_cases s1:8<k
   ·obtain rfl:r=false:=by rw[hr,bfq (by omega)]
    clear hr;have d1:decide (k<=(8:Int))=false:=bfq (by omega)
    go_enter func14,ntmps14;go_wp2_with(fail);go_ret;exact⟨rfl,(Below.refl _ w).alloc (bfx _) _⟩
   obtain rfl:r=true:=by rw[hr,bfr (by omega)]
   clear hr;have d1:decide (k<=(8:Int))=true:=bfr (by omega)
   go_enter func14,ntmps14;go_wp2_with(fail);go_ret;exact⟨rfl,(Below.refl _ w).alloc (bfx _) _⟩
  rw[if_neg a6]at hr;have e6:(agg==6)=false:=by simpa using a6
  by_cases s2:k=0
  ·subst s2;obtain rfl:r=true:=by rw[hr,bfr (by omega)]
   clear hr a6;go_enter func14,ntmps14;go_wp2_with(fail);go_ret;exact⟨rfl,(Below.refl _ w).alloc (bfx _) _⟩
  obtain rfl:r=false:=by rw[hr,bfq (by omega)]
  have e0:(k==0)=false:=by simpa using s2
  clear hr a6 s2;go_enter func14,ntmps14;go_wp2_with(fail);go_ret;exact⟨rfl,(Below.refl _ w).alloc (bfx _) _⟩
 obtain rfl:r=false:=by rw[hr,bfq s3,Bool.false_and]
 have e3:(slide==0)=false:=by simpa using s3
 have e3n:(slide !=0)=true:=by simpa using s3
 clear hr k2 s3;go_enter func14,ntmps14;go_wp2_with(fail);go_ret;exact⟨rfl,(Below.refl _ w).alloc (bfx _) _⟩
theorem pQ(w:World)(x:bg)(hl:x.key.length<=1000000):
  Calls prog 70 #[.agg x.cells] w (bE w (.bool x.bB)):=by
 obtain⟨key,lo,hi⟩:=x;obtain⟨r,hr⟩:=Nm ((bg.mk key lo hi).bB);rw[<-hr];have hN:=λw=>vG w key hl;obtain⟨nb,hnb⟩:=Nm (kr key);rw[<-hnb]at hN;simp only[bg.bB]at hr;rw[<-hnb]at hr;have Tt:=Lh hN;clear hnb hN hl;unfold bg.cells
 cases nb with
 | false=>
  obtain rfl:r=false:=by rw[hr];rfl
  clear hr;go_enter func70,ntmps70;go_wp2_with(fail);refine(Tt.out _).mono ?_;rintro e w3 ⟨rfl,rfl⟩;dsimp only;go_wp2_with(fail);go_ret;exact⟨rfl,(Below.refl _ w).alloc (bfx _) _⟩
 | true=>
  rw[bgw]at hr;by_cases h0:0<=lo
  case neg=>
   obtain rfl:r=false:=by rw[hr,bfq (by omega)]
   have d0:decide (0<=lo)=false:=bfq h0;clear hr;go_enter func70,ntmps70;go_wp2_with(fail);refine(Tt.out _).mono ?_;rintro e w3 ⟨rfl,rfl⟩;dsimp only;go_wp2_with(fail);go_ret;exact⟨rfl,(Below.refl _ w).alloc (bfx _) _⟩
  by_cases h1:lo<=1099511627776
  case neg=>
   obtain rfl:r=false:=by rw[hr,bfq (by omega)]
   have d1:decide (lo<=1099511627776)=false:=bfq h1;clear hr;go_enter func70,ntmps70;go_wp2_with(fail);refine(Tt.out _).mono ?_;rintro e w3 ⟨rfl,rfl⟩;dsimp only;go_wp2_with(fail);go_ret;exact⟨rfl,(Below.refl _ w).alloc (bfx _) _⟩
  by_cases h2:lo<hi
  case neg=>
   obtain rfl:r=false:=by rw[hr,bfq (by omega)]
   have d2:decide (lo<hi)=false:=bfq h2;clear hr;go_enter func70,ntmps70;go_wp2_with(fail);refine(Tt.out _).mono ?_;rintro e w3 ⟨rfl,rfl⟩;dsimp only;go_wp2_with(fail);go_ret;exact⟨rfl,(Below.refl _ w).alloc (bfx _) _⟩
  by_cases h3:hi<=4398046511104
  case neg=>
   obtain rfl:r=false:=by rw[hr,bfq (by omega)]
   have d3:decide (hi<=4398046511104)=false:=bfq h3;clear hr;go_enter func70,ntmps70;go_wp2_with(fail);refine(Tt.out _).mono ?_;rintro e w3 ⟨rfl,rfl⟩;dsimp only;go_wp2_with(fail);go_ret;exact⟨rfl,(Below.refl _ w).alloc (bfx _) _⟩
  obtain rfl:r=true:=by rw[hr,bfr (by omega)]
  clear hr;go_enter func70,ntmps70;go_wp2_with(fail);refine(Tt.out _).mono ?_;rintro e w3 ⟨rfl,rfl⟩;dsimp only;go_wp2_with(fail);go_ret;exact⟨rfl,(Below.refl _ w).alloc (bfx _) _⟩
theorem BM(w:World)(q:bz)(x:bg)(mark:Int)(h1:0<=x.hi/\x.hi<=4398046511104)(h2:0<=q.late/\q.late<=1073741824):
  Calls prog 71 #[.agg q.cells,.agg x.cells,.int .i64 mark] w (bE w (.bool (decide (x.hi+q.late<=mark)))):=by
 obtain⟨key,lo,hi⟩:=x;obtain⟨kind,size,slide,late,agg,tk⟩:=q;simp only at h1 h2;unfold bg.cells bz.cells;go_enter func71,ntmps71;go_wp2_with(fail);go_ret;have hb:=(Below.refl _ w).alloc (bfx _) (.cells #[.int .i64 kind,.int .i64 size,.int .i64 slide,.int .i64 late,.int .i64 agg,.int .i64 tk] 23);exact⟨rfl,hb.alloc hb.size _⟩
theorem pM(w:World)(a b:Int):Calls prog 109 #[.int .i64 a,.int .i64 b] w λe w'=>e=.returned (.int .i64 (lC a b))/\w'=w:=by
 unfold lC;by_cases h1:a<b
 ·rw[if_pos h1];go_enter func109,ntmps109;go_wp2_with(fail);go_ret;exact⟨rfl,rfl⟩
 rw[if_neg h1];by_cases h2:b<a
 ·rw[if_pos h2];go_enter func109,ntmps109;go_wp2_with(fail);go_ret;exact⟨rfl,rfl⟩
 rw[if_neg h2];go_enter func109,ntmps109;go_wp2_with(fail);go_ret;exact⟨rfl,rfl⟩
theorem BK {P:Program}(w:World)(t:TypeId)(a b:List (BitVec 8)):(binOp .lss t (Sv a) (Sv b)).run P w=.ok (.bool (wQ a b)) w:=by
 simp[Sv,binOp,Op.stringOp,wQ]
theorem BJ {P:Program}(w:World)(t:TypeId)(a b:List (BitVec 8)):(binOp .gtr t (Sv a) (Sv b)).run P w=.ok (.bool (wQ b a)) w:=by
 rw[wQ,<-ko];simp[Sv,binOp,Op.stringOp]
theorem BN(w:World)(a b:List (BitVec 8)):Calls prog 108 #[Sv a,Sv b] w λe w'=>e=.returned (.int .i64 (qW a b))/\w'=w:=by
 have l1:∀w,(binOp .lss 9 (Sv a) (Sv b)).run prog w=.ok (.bool (wQ a b)) w:=λw=>BK w _ a b;have l2:∀w,(binOp .gtr 9 (Sv a) (Sv b)).run prog w=.ok (.bool (wQ b a)) w:=λw=>BJ w _ a b;unfold qW;obtain⟨p,hp⟩:=Nm (wQ a b);obtain⟨q,hq⟩:=Nm (wQ b a);rw[<-hp]at l1 ⊢;rw[<-hq]at l2 ⊢;clear hp hq
 cases p with
 | true=>
  rw[if_pos rfl];go_enter func108,ntmps108;go_wp2_with(fail);go_ret;exact⟨rfl,rfl⟩
 | false=>
  rw[if_neg (by decide)]
  cases q with
  | true=>
   rw[if_pos rfl];go_enter func108,ntmps108;go_wp2_with(fail);go_ret;exact⟨rfl,rfl⟩
  | false=>
   rw[if_neg (by decide)]
   go_enter func108,ntmps108;go_wp2_with(fail);go_ret;exact⟨rfl,rfl⟩
theorem Be(w:World)(a:Int):Calls prog 116 #[.int .i64 a] w λe w'=>e=.returned (.bool false)/\w'=w:=by
 have h:(a !=a)=false:=by simp
 go_enter func116,ntmps116;go_wp2_with(fail);go_ret;exact⟨rfl,rfl⟩
theorem Bf(w:World)(a:List (BitVec 8)):Calls prog 115 #[Sv a] w λe w'=>e=.returned (.bool false)/\w'=w:=by
 have h:∀w,(binOp .neq 9 (Sv a) (Sv a)).run prog w=.ok (.bool false) w:=λw=>by
  have h:=BL w a a
  rwa [bfr rfl]at h
 go_enter func115,ntmps115;go_wp2_with(fail);go_ret;exact⟨rfl,rfl⟩
theorem rZ(w:World)(a b:Int):Calls prog 91 #[.int .i64 a,.int .i64 b] w λe w'=>e=.returned (.int .i64 (lC a b))/\w'=w:=by
 have HA:=Lh (Be w a);have HB:=Lh (Be w b);obtain⟨r,hr⟩:=Nm (lC a b);rw[<-hr];unfold lC at hr;by_cases h1:a<b
 ·obtain rfl:r=-1:=by rw[hr,if_pos h1]
  clear hr;go_enter func91,ntmps91;go_wp2_with(fail);refine HA.out.mono ?_;rintro e w1 ⟨rfl,hw⟩;subst w1;dsimp only;go_wp2_with(fail);refine HB.out.mono ?_;rintro e w1 ⟨rfl,hw⟩;subst w1;dsimp only;go_wp2_with(fail);go_ret;exact⟨rfl,rfl⟩
 rw[if_neg h1]at hr;by_cases h2:b<a
 ·obtain rfl:r=1:=by rw[hr,if_pos h2]
  clear hr;go_enter func91,ntmps91;go_wp2_with(fail);refine HA.out.mono ?_;rintro e w1 ⟨rfl,hw⟩;subst w1;dsimp only;go_wp2_with(fail);refine HB.out.mono ?_;rintro e w1 ⟨rfl,hw⟩;subst w1;dsimp only;go_wp2_with(fail);go_ret;exact⟨rfl,rfl⟩
 obtain rfl:r=0:=by rw[hr,if_neg h2]
 clear hr;go_enter func91,ntmps91;go_wp2_with(fail);refine HA.out.mono ?_;rintro e w1 ⟨rfl,hw⟩;subst w1;dsimp only;go_wp2_with(fail);refine HB.out.mono ?_;rintro e w1 ⟨rfl,hw⟩;subst w1;dsimp only;go_wp2_with(fail);go_ret;exact⟨rfl,rfl⟩
theorem Gn(w:World)(a b:List (BitVec 8)):Calls prog 90 #[Sv a,Sv b] w λe w'=>e=.returned (.int .i64 (qW a b))/\w'=w:=by
 have HA:=Lh (Bf w a);have HB:=Lh (Bf w b);have l1:∀w,(binOp .lss 9 (Sv a) (Sv b)).run prog w=.ok (.bool (wQ a b)) w:=λw=>BK w _ a b;have l2:∀w,(binOp .gtr 9 (Sv a) (Sv b)).run prog w=.ok (.bool (wQ b a)) w:=λw=>BJ w _ a b;obtain⟨r,hr⟩:=Nm (qW a b);rw[<-hr];unfold qW at hr;obtain⟨p,hp⟩:=Nm (wQ a b);obtain⟨q,hq⟩:=Nm (wQ b a);rw[<-hp]at l1 hr;rw[<-hq]at l2 hr;clear hp hq
 cases p with
 | true=>
  obtain rfl:r=-1:=hr;go_enter func90,ntmps90;go_wp2_with(fail);refine HA.out.mono ?_;rintro e w1 ⟨rfl,hw⟩;subst w1;dsimp only;go_wp2_with(fail);refine HB.out.mono ?_;rintro e w1 ⟨rfl,hw⟩;subst w1;dsimp only;go_wp2_with(fail);go_ret;exact⟨rfl,rfl⟩
 | false=>
  cases q with
  | true=>
   obtain rfl:r=1:=hr;go_enter func90,ntmps90;go_wp2_with(fail);refine HA.out.mono ?_;rintro e w1 ⟨rfl,hw⟩;subst w1;dsimp only;go_wp2_with(fail);refine HB.out.mono ?_;rintro e w1 ⟨rfl,hw⟩;subst w1;dsimp only;go_wp2_with(fail);go_ret;exact⟨rfl,rfl⟩
  | false=>
   obtain rfl:r=0:=hr;go_enter func90,ntmps90;go_wp2_with(fail);refine HA.out.mono ?_;rintro e w1 ⟨rfl,hw⟩;subst w1;dsimp only;go_wp2_with(fail);refine HB.out.mono ?_;rintro e w1 ⟨rfl,hw⟩;subst w1;dsimp only;go_wp2_with(fail);go_ret;exact⟨rfl,rfl⟩
def Rk(w0:World)(ns:List Int)(v:Value)(wr:World):Prop:=∃j:Nat,j<=3/\v=.int .i64 (j:Int)/\(∀i<j,ns.getD i 0=0)/\wr=w0
theorem LP(a b c:Int):(∀j<3,(∀i<j,([a,b,c]:List Int).getD i 0=0)->([a,b,c]:List Int).getD j 0≠0->jW a b c=([a,b,c]:List Int).getD j 0)/\((∀i<3,([a,b,c]:List Int).getD i 0=0)->jW a b c=0):=by
 constructor
 ·intro j hj hz hn;obtain rfl | rfl | rfl:j=0∨j=1∨j=2:=by omega
  ·exact if_pos hn
  ·have h0:a=0:=hz 0 (by omega)
   unfold jW;rw[if_neg (by simpa using h0)]
   exact if_pos hn
  have h0:a=0:=hz 0 (by omega)
  have h1:b=0:=hz 1 (by omega)
  unfold jW;rw[if_neg (by simpa using h0),if_neg (by simpa using h1)]
  rfl
 intro hz;have h0:a=0:=hz 0 (by omega)
 have h1:b=0:=hz 1 (by omega)
 have h2:c=0:=hz 2 (by omega)
 unfold jW;rw[if_neg (by simpa using h0),if_neg (by simpa using h1),h2]
theorem K4(w:World)(g:Nat)(a b c:Int)(hg:w.heap[g]? =some (.cells #[.int .i64 a,.int .i64 b,.int .i64 c] 3 (0,0))):
  Calls prog 89 #[.slice (some ⟨g,0,none⟩) 3 3] w λe w'=>e=.returned (.int .i64 (jW a b c))/\w'=w:=by
 obtain⟨r,hr⟩:=Nm (jW a b c);rw[<-hr];obtain⟨ns,hns⟩:=Nm ([a,b,c]:List Int);have HW:Hid (∀j<3,w.cell? ⟨g,j,none⟩=some (.int .i64 (ns.getD j 0))):=by
  rw[hns];refine Lh (λj hj=>?_);rw[cell_of_row _ _ _ _ _ _ hg];obtain rfl | rfl | rfl:j=0∨j=1∨j=2:=by omega
  all_goals rfl
 have HR2:Hid ((∀j<3,(∀i<j,ns.getD i 0=0)->ns.getD j 0≠0->r=ns.getD j 0)/\((∀i<3,ns.getD i 0=0)->r=0)):=by
  rw[hr,hns];exact Lh (LP a b c)
 clear hns hr hg;go_enter func89,ntmps89;go_wp2_with(fail);go_loopw[8] (Rk w ns) (λv _=>3-(intOf v).toNat)
 case atStart=>exact⟨0,by omega,rfl,λi hi=>by omega,rfl⟩
 case round=>
  obtain⟨j,hj,rfl,hz,hwr⟩:=hrel;subst wr;have Yk:=Lh hz;clear hz;by_cases hlt:j<3
  ·have hc:=HW.out j hlt;obtain⟨n,hn⟩:=Nm (ns.getD j 0);rw[<-hn]at hc;have HN:=Lh hn;clear hn;by_cases hn0:n=0
   ·have e0:(n !=0)=false:=by rw[hn0];rfl
    have ui:=Lh hn0;clear hn0;go_wp2_with(fail);go_roundw
    case rel=>
     refine⟨j+1,hlt,by go_num,λi hi=>?_,rfl⟩
     by_cases hij:i<j
     ·exact Yk.out i hij
     obtain rfl:i=j:=by omega
     rw[<-HN.out];exact ui.out
    case measure=>simp[intOf];omega
   have e0:(n !=0)=true:=by simpa using hn0
   obtain rfl:r=n:=by rw[HN.out];exact HR2.out.1 j hlt Yk.out (by rw[<-HN.out];exact hn0)
   clear hn0;go_wp2_with(fail);go_ret;exact⟨rfl,rfl⟩
  obtain rfl:j=3:=by omega
  obtain rfl:r=0:=HR2.out.2 Yk.out;clear hlt hj;go_wp2_with(fail);go_ret;exact⟨rfl,rfl⟩
theorem Kz {q:bz}(h:q.bB=true) {key:List (BitVec 8)}(hk:kr key=true) {t k:Int}(h0:0<=t)(h1:t<=1099511627776)(hk0:xH q t<=k)(hk1:k<=t / dM q):
  (nQ q key k).bB=true/\(nQ q key k).lo<=t/\t<(nQ q key k).hi/\(nQ q key k).hi<=1100585369600:=by
 obtain⟨s1,s2,s3,s4,s5⟩:=jk h;obtain⟨b1,b2,b3⟩:=p9 h h0;have hp0:0<=k*dM q:=Int.mul_nonneg (by omega) (by omega)
 have hp1:k*dM q<=t / dM q*dM q:=Int.mul_le_mul_of_nonneg_right hk1 (by omega)
 have hp2:t / dM q*dM q<=t:=Int.ediv_mul_le _ (by omega)
 have hin:=(qw h (t:=t) k (by omega)).2 hk0
 refine⟨?_,?_,hin,?_⟩
 ·unfold bg.bB nQ;simp only[hk,bgw,bf0];omega
 ·show k*dM q<=t;omega
 show k*dM q+q.size<=1100585369600;omega
theorem qx {q:bz} {key:List (BitVec 8)} {t:Int} {x:bg}(hx:x∈lM q key t):q.bB=true/\x.bB=true/\x.lo<=t/\t<x.hi/\x.hi<=1100585369600/\x.key=key:=by
 unfold lM at hx
 split at hx
 ·rename_i hok;simp only[jS,bf8,bf0]at hok;obtain⟨⟨hr,hn⟩,h0,h1⟩:=hok;obtain⟨s1,s2,s3,s4,s5⟩:=jk hr
  split at hx
  ·rw[List.mem_singleton.1 hx];refine⟨hr,?_,Int.le_refl _,?_,?_,rfl⟩
   ·unfold bg.bB;simp only[hn,bgw,bf0];omega
   ·show t<t+q.size;omega
   show t+q.size<=1100585369600;omega
  obtain⟨i,hi,rfl⟩:=List.mem_map.1 hx;have hi':=List.mem_range.1 hi;obtain⟨b1,b2,b3⟩:=p9 hr h0;obtain⟨g1,g2,g3,g4⟩:=Kz hr hn h0 h1 (k:=xH q t+(i:Int)) (by omega) (by omega)
  exact⟨hr,g1,g2,g3,g4,rfl⟩
 simp at hx
theorem rH:∀x y z:List UInt8,Op.bytesLess x y=true->Op.bytesLess y z=true->Op.bytesLess x z=true
 | [],[],_,h,_=>by simp[Op.bytesLess]at h
 | [],_::_,[],_,h=>by simp[Op.bytesLess]at h
 | [],_::_,_::_,_,_=>rfl
 | _::_,[],_,h,_=>by simp[Op.bytesLess]at h
 | _::_,_::_,[],_,h=>by simp[Op.bytesLess]at h
 | a::x,b::y,c::z,h1,h2=>by
  have ih:=rH x y z;simp only[Op.bytesLess,Bool.or_eq_true,bf0,bf8,beq_iff_eq]at h1 h2 ⊢;rcases h1 with h1 | ⟨rfl,h1⟩ <;> rcases h2 with h2 | ⟨rfl,h2⟩
  ·left
   exact UInt8.lt_trans h1 h2
  ·exact .inl h1
  ·exact .inl h2
  exact .inr ⟨rfl,ih h1 h2⟩
theorem Dw {a b:List (BitVec 8)}(h:(strOf a).toList=(strOf b).toList):a=b:=by
 have e:=str_eq a b;rw[h,beq_self_eq_true]at e;exact bgh e.symm
theorem L8(a b:List (BitVec 8)):wQ a b=true∨a=b∨wQ b a=true:=by
 have h:=ko (strOf a).toList (strOf b).toList;unfold wQ
 cases h1:Op.bytesLess (strOf a).toList (strOf b).toList with
 | true=>exact .inl rfl
 | false=>
  rw[h1]at h;by_cases e:a=b
  ·exact .inr (.inl e)
  right;right
  have:((strOf a).toList==(strOf b).toList)=false:=by
   rw[beq_eq_false_iff_ne];exact λh'=>e (Dw h')
  rw[this]at h;exact h.symm
theorem tO {a b c:List (BitVec 8)}(h1:wQ a b=true)(h2:wQ b c=true):wQ a c=true:=rH _ _ _ h1 h2
theorem lY(a:List (BitVec 8)):wQ a a=false:=by
 have h:=ko (strOf a).toList (strOf a).toList;rw[beq_self_eq_true,Bool.not_true,Bool.and_false]at h;exact h.symm
theorem L6 {a b:List (BitVec 8)}(h:wQ a b=true):wQ b a=false:=by
 cases h2:wQ b a with
 | false=>rfl
 | true=>
  have:=tO h h2;rw[lY]at this;cases this
def bJ(a b:bg):Prop:=wQ a.key b.key=true∨a.key=b.key/\(a.lo<b.lo∨a.lo=b.lo/\a.hi<b.hi)
theorem nM(a b:Int):a<b/\lC a b=-1∨a=b/\lC a b=0∨b<a/\lC a b=1:=by
 unfold lC
 split
 ·exact .inl ⟨by assumption,rfl⟩
 split
 ·exact .inr (.inr ⟨by assumption,rfl⟩)
 exact .inr (.inl ⟨by omega,rfl⟩)
theorem Bq(a b:List (BitVec 8)):wQ a b=true/\qW a b=-1∨a=b/\qW a b=0∨wQ b a=true/\qW a b=1:=by
 rcases L8 a b with h | rfl | h
 ·exact .inl ⟨h,by rw[qW,if_pos h]⟩
 ·exact .inr (.inl ⟨rfl,Ml a⟩)
 exact .inr (.inr ⟨h,by rw[qW,L6 h,if_neg (by decide),if_pos h]⟩)
theorem mQ(a b:bg):gG a b=-1/\bJ a b∨gG a b=0/\a=b∨gG a b=1/\bJ b a:=by
 obtain⟨k,l,h⟩:=a;obtain⟨k',l',h'⟩:=b;unfold gG bJ;simp only;rcases Bq k k' with⟨c,e⟩ | ⟨rfl,e⟩ | ⟨c,e⟩
 ·left;exact⟨by rw[e];rfl,.inl c⟩
 ·rcases nM l l' with⟨c,e2⟩ | ⟨rfl,e2⟩ | ⟨c,e2⟩
  ·left;exact⟨by rw[e,e2];rfl,.inr ⟨rfl,.inl c⟩⟩
  ·rcases nM h h' with⟨c,e3⟩ | ⟨rfl,e3⟩ | ⟨c,e3⟩
   ·left;exact⟨by rw[e,e2,e3];rfl,.inr ⟨rfl,.inr ⟨rfl,c⟩⟩⟩
   ·right;left;exact⟨by rw[e,e2,e3];rfl,rfl⟩
   right;right;exact⟨by rw[e,e2,e3];rfl,.inr ⟨rfl,.inr ⟨rfl,c⟩⟩⟩
  right;right;exact⟨by rw[e,e2];rfl,.inr ⟨rfl,.inl c⟩⟩
 right;right;exact⟨by rw[e];rfl,.inl c⟩
theorem bJ.trans {a b c:bg}(h1:bJ a b)(h2:bJ b c):bJ a c:=by
 unfold bJ at*;rcases h1 with h1 | ⟨e1,h1⟩
 ·rcases h2 with h2 | ⟨e2,h2⟩
  ·exact .inl (tO h1 h2)
  exact .inl (e2 ▸ h1)
 rcases h2 with h2 | ⟨e2,h2⟩
 ·exact .inl (e1 ▸ h2)
 exact .inr ⟨e1.trans e2,by omega⟩
theorem bJ.irrefl {a:bg}(h:bJ a a):False:=by
 rcases h with h | ⟨_,h⟩
 ·rw[lY]at h;cases h
 omega
theorem bJ.asymm {a b:bg}(h1:bJ a b)(h2:bJ b a):False:=(h1.trans h2).irrefl
theorem gI(a b:bg):gG a b<0↔bJ a b:=by
 rcases mQ a b with⟨e,h⟩ | ⟨e,rfl⟩ | ⟨e,h⟩
 ·exact⟨λ_=>h,λ_=>by omega⟩
 ·exact⟨λh=>by omega,λh=>h.irrefl.elim⟩
 exact⟨λh=>by omega,λh'=>(h.asymm h').elim⟩
theorem mJ {a b:bg}(h:a≠b):bJ a b∨bJ b a:=by
 rcases mQ a b with⟨_,h'⟩ | ⟨_,rfl⟩ | ⟨_,h'⟩
 ·exact .inl h'
 ·exact(h rfl).elim
 exact .inr h'
instance (a b:bg):Decidable (bJ a b):=decidable_of_iff (gG a b<0) (gI a b)
def dK(a b:bg):Bool:=a.bB && b.bB && decide (a.key=b.key/\a.lo<=b.hi/\b.lo<=a.hi)
theorem fu(a b:bg):dK a b=true↔a.bB=true/\b.bB=true/\a.key=b.key/\a.lo<=b.hi/\b.lo<=a.hi:=by
 simp only[dK,bf8,bf0,and_assoc]
theorem mo(a b:bg):dK a b=dK b a:=by
 have h:dK a b=true↔dK b a=true:=by
  rw[fu,fu];exact⟨λ⟨h1,h2,h3,h4,h5⟩=>⟨h2,h1,h3.symm,h5,h4⟩,λ⟨h1,h2,h3,h4,h5⟩=>⟨h2,h1,h3.symm,h5,h4⟩⟩
 cases h1:dK a b <;> cases h2:dK b a <;> simp_all
def dD(l:List bg):Prop:=(∀x∈l,x.bB=true)/\l.Pairwise (λa b=>bJ a b/\dK a b=false)
instance (l:List bg):Decidable (dD l):=by unfold dD;infer_instance
def Cf(l:List bg)(k:List (BitVec 8))(p:Int):Prop:=∃x∈l,x.key=k/\2*x.lo<=p/\p<=2*x.hi
theorem zz(l m:List bg)(k:List (BitVec 8))(p:Int):Cf (l++m) k p↔Cf l k p∨Cf m k p:=by
 simp only[Cf,bgg];constructor
 ·rintro⟨x,h | h,h'⟩
  ·exact .inl ⟨x,h,h'⟩
  exact .inr ⟨x,h,h'⟩
 rintro(⟨x,h,h'⟩ | ⟨x,h,h'⟩)
 ·exact⟨x,.inl h,h'⟩
 exact⟨x,.inr h,h'⟩
theorem KH(x:bg)(k:List (BitVec 8))(p:Int):Cf [x] k p↔x.key=k/\2*x.lo<=p/\p<=2*x.hi:=by simp[Cf]
theorem KG {l m:List bg}(h:∀x,x∈l↔x∈m)(k:List (BitVec 8))(p:Int):Cf l k p↔Cf m k p:=by
 simp only[Cf,h]
theorem dD.apart {l:List bg}(h:dD l) {x y:bg}(hx:x∈l)(hy:y∈l)(hne:x≠y):dK x y=false:=by
 obtain⟨i,hi,rfl⟩:=List.getElem_of_mem hx;obtain⟨j,hj,rfl⟩:=List.getElem_of_mem hy;rcases Nat.lt_trichotomy i j with hij | rfl | hij
 ·exact(List.pairwise_iff_getElem.1 h.2 i j hi hj hij).2
 ·exact(hne rfl).elim
 rw[mo];exact(List.pairwise_iff_getElem.1 h.2 j i hj hi hij).2
theorem dD.within {l m:List bg}(hl:dD l)(hm:∀x∈m,x.bB=true)(hc:∀k p,Cf m k p->Cf l k p) {x y:bg}(hx:x∈l)(hy:y∈m)(hk:y.key=x.key)(h1:y.lo<=x.hi)(h2:x.lo<=y.hi):x.lo<=y.lo/\y.hi<=x.hi:=by
 have rx:=cu (hl.1 x hx);have ry:=cu (hm y hy);constructor
 ·refine Int.not_lt.1 λhlt=>?_;obtain⟨v,hv,hvk,hv1,hv2⟩:=hc x.key (2*x.lo - 1) ⟨y,hy,hk,by omega,by omega⟩
  have rv:=cu (hl.1 v hv);have hne:v≠x:=λe=>by rw[e]at hv1;omega
  have:=hl.apart hv hx hne;rw[Bool.eq_false_iff]at this;exact this ((fu _ _).2 ⟨hl.1 v hv,hl.1 x hx,hvk,by omega,by omega⟩)
 refine Int.not_lt.1 λhlt=>?_;obtain⟨v,hv,hvk,hv1,hv2⟩:=hc x.key (2*x.hi+1) ⟨y,hy,hk,by omega,by omega⟩
 have rv:=cu (hl.1 v hv);have hne:v≠x:=λe=>by rw[e]at hv2;omega
 have:=hl.apart hv hx hne;rw[Bool.eq_false_iff]at this;exact this ((fu _ _).2 ⟨hl.1 v hv,hl.1 x hx,hvk,by omega,by omega⟩)
theorem dD.mem {l m:List bg}(hl:dD l)(hm:dD m)(hc:∀k p,Cf l k p↔Cf m k p) {x:bg}(hx:x∈l):x∈m:=by
 have rx:=cu (hl.1 x hx);obtain⟨y,hy,hyk,hy1,hy2⟩:=(hc x.key (2*x.lo)).1 ⟨x,hx,rfl,by omega,by omega⟩
 have ry:=cu (hm.1 y hy);obtain⟨a1,a2⟩:=hl.within hm.1 (λk p=>(hc k p).2) hx hy hyk (by omega) (by omega)
 obtain⟨b1,b2⟩:=hm.within hl.1 (λk p=>(hc k p).1) hy hx hyk.symm (by omega) (by omega)
 have e:x=y:=by
  obtain⟨k,lo,hi⟩:=x;obtain⟨k',lo',hi'⟩:=y;simp only at hyk a1 a2 b1 b2;simp only[bg.mk.injEq];exact⟨hyk.symm,by omega,by omega⟩
 rwa [e]
theorem Kr {l m:List bg}:l.Pairwise bJ->m.Pairwise bJ->(∀x,x∈l↔x∈m)->l=m:=by
 induction l generalizing m with
 | nil=>
  intro _ _ h
  cases m with
  | nil=>rfl
  | cons y m=>exact absurd ((h y).2 (by simp)) (by simp)
 | cons x l ih=>
  intro hl hm h
  cases m with
  | nil=>exact absurd ((h x).1 (by simp)) (by simp)
  | cons y m=>
   rw[List.pairwise_cons]at hl hm;have e:x=y:=by
    rcases List.mem_cons.1 ((h x).1 (by simp))with e | hx
    ·exact e
    rcases List.mem_cons.1 ((h y).2 (by simp))with e | hy
    ·exact e.symm
    exact((hm.1 x hx).asymm (hl.1 y hy)).elim
   subst e
   congr 1
   refine ih hl.2 hm.2 λz=>?_;have hz:=h z;simp only[bf2]at hz;constructor
   ·intro h1;rcases hz.1 (.inr h1)with rfl | h2
    ·exact((hl.1 z h1).irrefl).elim
    exact h2
   intro h1;rcases hz.2 (.inr h1)with rfl | h2
   ·exact((hm.1 z h1).irrefl).elim
   exact h2
theorem dD.ext {l m:List bg}(hl:dD l)(hm:dD m)(hc:∀k p,Cf l k p↔Cf m k p):l=m:=
 Kr (hl.2.imp (λh=>h.1)) (hm.2.imp (λh=>h.1)) λ_=>⟨λh=>hl.mem hm hc h,λh=>hm.mem hl (λk p=>(hc k p).symm) h⟩
def jK(w:bg)(x o:bg):bg:=if dK o w=true then ⟨x.key,min x.lo o.lo,max x.hi o.hi⟩else x
def became(l:List bg)(w:bg):bg:=l.foldl (jK w) w
def kH(l:List bg)(w:bg):List bg:=l.filter λo=> !dK o w
def lJ(l:List bg)(w:bg):List Nat:=(List.range l.length).filter λi=>dK (l.getD i bX) w
theorem Db(w:bg):∀(l:List bg) (x:bg),
  let y:=l.foldl (jK w) x
  y.key=x.key/\y.lo<=x.lo/\x.hi<=y.hi/\(∀o∈l,dK o w=true->y.lo<=o.lo/\o.hi<=y.hi)/\
  (y.lo=x.lo∨∃o∈l,dK o w=true/\y.lo=o.lo)/\(y.hi=x.hi∨∃o∈l,dK o w=true/\y.hi=o.hi)
 | [],x=>⟨rfl,Int.le_refl _,Int.le_refl _,λ_ h=>by simp at h,.inl rfl,.inl rfl⟩
 | o::l,x=>by
  have ih:=Db w l (jK w x o);obtain⟨h1,h2,h3,h4,h5,h6⟩:=ih;have hs:∀z,List.foldl (jK w) x (o::l)=z↔List.foldl (jK w) (jK w x o) l=z:=λz=>Iff.rfl;simp only;rw[show List.foldl (jK w) x (o::l)=List.foldl (jK w) (jK w x o) l from rfl]
  generalize List.foldl (jK w) (jK w x o) l=y at h1 h2 h3 h4 h5 h6
  by_cases hj:dK o w=true
  ·have e:jK w x o=⟨x.key,min x.lo o.lo,max x.hi o.hi⟩:=by rw[jK,if_pos hj]
   rw[e]at h1 h2 h3 h5 h6;simp only at h1 h2 h3 h5 h6;refine⟨h1,by clear h4 h5 h6;omega,by clear h4 h5 h6;omega,?_,?_,?_⟩
   ·intro p hp XQ;rcases List.mem_cons.1 hp with rfl | hp
    ·clear h4 h5 h6;omega
    exact h4 p hp XQ
   ·clear h4 h6;rcases h5 with h5 | ⟨p,hp,XQ,h5⟩
    ·by_cases hm:x.lo<=o.lo
     ·exact .inl (by omega)
     exact .inr ⟨o,by simp,hj,by omega⟩
    exact .inr ⟨p,by simp[hp],XQ,h5⟩
   clear h4 h5;rcases h6 with h6 | ⟨p,hp,XQ,h6⟩
   ·by_cases hm:o.hi<=x.hi
    ·exact .inl (by omega)
    exact .inr ⟨o,by simp,hj,by omega⟩
   exact .inr ⟨p,by simp[hp],XQ,h6⟩
  have e:jK w x o=x:=by rw[jK,if_neg hj]
  rw[e]at h1 h2 h3 h5 h6;refine⟨h1,h2,h3,?_,?_,?_⟩
  ·intro p hp XQ;rcases List.mem_cons.1 hp with rfl | hp
   ·exact(hj XQ).elim
   exact h4 p hp XQ
  ·rcases h5 with h5 | ⟨p,hp,XQ,h5⟩
   ·exact .inl h5
   exact .inr ⟨p,by simp[hp],XQ,h5⟩
  rcases h6 with h6 | ⟨p,hp,XQ,h6⟩
  ·exact .inl h6
  exact .inr ⟨p,by simp[hp],XQ,h6⟩
theorem jh {l:List bg} {w:bg}(hw:w.bB=true):
  (became l w).bB=true/\(became l w).key=w.key/\(became l w).lo<=w.lo/\w.hi<=(became l w).hi/\(∀o∈l,dK o w=true->(became l w).lo<=o.lo/\o.hi<=(became l w).hi)/\
  ((became l w).lo=w.lo∨∃o∈l,dK o w=true/\(became l w).lo=o.lo)/\((became l w).hi=w.hi∨∃o∈l,dK o w=true/\(became l w).hi=o.hi):=by
 obtain⟨h1,h2,h3,h4,h5,h6⟩:=Db w l w;obtain⟨r1,r2,r3,r4,r5,r6,r7⟩:=cu hw;refine⟨?_,h1,h2,h3,h4,h5,h6⟩;have hlo:0<=(became l w).lo:=by
  rcases h5 with h5 | ⟨o,_,ho,h5⟩
  ·show 0<=(List.foldl (jK w) w l).lo;omega
  have:=cu ((fu _ _).1 ho).1;show 0<=(List.foldl (jK w) w l).lo;omega
 have hhi:(became l w).hi<=4398046511104:=by
  rcases h6 with h6 | ⟨o,_,ho,h6⟩
  ·show(List.foldl (jK w) w l).hi<=_;omega
  have:=cu ((fu _ _).1 ho).1;show(List.foldl (jK w) w l).hi<=_;omega
 have hk:(became l w).key=w.key:=h1;have h2':(became l w).lo<=w.lo:=h2;have h3':w.hi<=(became l w).hi:=h3;rw[bg.bB,hk,r1,bgw,bf0];omega
theorem mZ {l:List bg} {w x:bg}:x∈kH l w↔x∈l/\dK x w=false:=by
 rw[kH,bgv,Bool.not_eq_true']
theorem vM {l:List bg} {w x:bg}(hl:dD l)(hw:w.bB=true)(hx:x∈kH l w):dK x (became l w)=false:=by
 obtain⟨b0,b1,b2,b3,b4,b5,b6⟩:=jh (l:=l) hw;obtain⟨hxl,hxj⟩:=mZ.1 hx;rw[Bool.eq_false_iff]at hxj ⊢;intro hj;obtain⟨j1,j2,j3,j4,j5⟩:=(fu _ _).1 hj;have rx:=cu j1;have rw':=cu hw;have hkw:x.key=w.key:=j3.trans b1;have hno:¬(x.lo<=w.hi/\w.lo<=x.hi):=λh=>hxj ((fu _ _).2 ⟨j1,hw,hkw,h.1,h.2⟩);have hap:∀o∈l,dK o w=true->x.hi<o.lo∨o.hi<x.lo:=by
  intro o ho hoj;have hne:x≠o:=λe=>hxj (e ▸ hoj);have h:=hl.apart hxl ho hne;rw[Bool.eq_false_iff]at h;obtain⟨o1,_,o3,_,_⟩:=(fu _ _).1 hoj;by_cases h1:x.hi<o.lo
  ·exact .inl h1
  right
  refine Int.not_le.1 λh2=>h ((fu _ _).2 ⟨j1,o1,hkw.trans o3.symm,h2,by omega⟩)
 by_cases hc:x.hi<w.lo
 ·rcases b5 with e | ⟨o,ho,hoj,e⟩
  ·omega
  have h1:=hap o ho hoj;have h2:=(fu _ _).1 hoj;omega
 have hc2:w.hi<x.lo:=by omega
 rcases b6 with e | ⟨o,ho,hoj,e⟩
 ·omega
 have h1:=hap o ho hoj;have h2:=(fu _ _).1 hoj;omega
theorem Gp {l:List bg} {w:bg}(hw:w.bB=true)(k:List (BitVec 8))(p:Int):Cf (kH l w++[became l w]) k p↔Cf (l++[w]) k p:=by
 obtain⟨b0,b1,b2,b3,b4,b5,b6⟩:=jh (l:=l) hw;have rb:=cu b0;have rw':=cu hw;rw[zz,zz,KH,KH];constructor
 ·rintro(⟨x,hx,h⟩ | ⟨hk,h1,h2⟩)
  ·exact .inl ⟨x,(mZ.1 hx).1,h⟩
  by_cases hc:2*w.lo<=p
  ·by_cases hc2:p<=2*w.hi
   ·exact .inr ⟨b1.symm.trans hk,hc,hc2⟩
   rcases b6 with e | ⟨o,ho,hoj,e⟩
   ·omega
   have h':=(fu _ _).1 hoj;exact .inl ⟨o,ho,by rw[h'.2.2.1,<-b1];exact hk,by omega,by omega⟩
  rcases b5 with e | ⟨o,ho,hoj,e⟩
  ·omega
  have h':=(fu _ _).1 hoj;exact .inl ⟨o,ho,by rw[h'.2.2.1,<-b1];exact hk,by omega,by omega⟩
 rintro(⟨x,hx,hk,h1,h2⟩ | ⟨hk,h1,h2⟩)
 ·cases hj:dK x w with
  | false=>exact .inl ⟨x,mZ.2 ⟨hx,hj⟩,hk,h1,h2⟩
  | true=>
   have h':=b4 x hx hj;have h2':=(fu _ _).1 hj;exact .inr ⟨by rw[b1,<-h2'.2.2.1];exact hk,by omega,by omega⟩
 exact .inr ⟨b1.trans hk,by omega,by omega⟩
def qd(w:bg)(out:List bg):Nat->Nat
 | 0=>0
 | n+1=>if gG w (out.getD n bX)<0 then qd w out n else n+1
def wM(out:List bg)(w:bg):List bg:=out.take (qd w out out.length)++[w]++out.drop (qd w out out.length)
def jG(l:List bg):List bg:=l.foldl wM []
theorem Fx(w:bg)(out:List bg):∀n,qd w out n<=n
 | 0=>bfx _
 | n+1=>by
  rw[qd]
  split
  ·have:=Fx w out n;omega
  exact bfx _
theorem Dm(w:bg)(out:List bg):∀n,(∀i,qd w out n<=i->i<n->bJ w (out.getD i bX))/\(∀i,qd w out n=i+1->¬bJ w (out.getD i bX))
 | 0=>⟨λi _ h=>absurd h (Nat.not_lt_zero _),λi h=>by simp[qd]at h⟩
 | n+1=>by
  obtain⟨h1,h2⟩:=Dm w out n;rw[qd];by_cases h:gG w (out.getD n bX)<0
  ·rw[if_pos h];refine⟨λi hi hn=>?_,h2⟩;by_cases e:i=n
   ·subst e;exact(gI _ _).1 h
   exact h1 i hi (by omega)
  rw[if_neg h];refine⟨λi hi hn=>by omega,λi hi=>?_⟩
  obtain rfl:i=n:=by omega
  exact λh'=>h ((gI _ _).2 h')
theorem Df(out:List bg)(w:bg):(wM out w).Perm (w::out):=by
 rw[wM,bgz];refine List.perm_middle.trans ?_;show(w::(List.take (qd w out out.length) out++List.drop (qd w out out.length) out)).Perm _;rw[List.take_append_drop]
theorem GH {out:List bg} {w:bg}(hs:out.Pairwise bJ)(hw:w ∉ out):(wM out w).Pairwise bJ:=by
 unfold wM;have hp:=Fx w out out.length;obtain⟨h1,h2⟩:=Dm w out out.length
 generalize qd w out out.length=p at hp h1 h2
 have hsp:=List.pairwise_iff_getElem.1 hs;have hg:∀i (h:i<out.length),out.getD i bX=out[i]:=λi h=>by simp[h]
 have hlow:∀i (h:i<out.length),i<p->bJ out[i] w:=by
  intro i hi Ac;have hm:out[i]≠w:=λe=>hw (e ▸ List.getElem_mem hi);have hlast:bJ out[p-1] w:=by
   have:=h2 (p-1) (by omega)
   rw[hg _ (by omega)]at this
   have hm2:out[p-1]≠w:=λe=>hw (e ▸ List.getElem_mem (by omega))
   exact(mJ hm2).resolve_right this
  by_cases e:i=p-1
  ·subst e;exact hlast
  exact(hsp i (p-1) hi (by omega) (by omega)).trans hlast
 have hup:∀i (h:i<out.length),p<=i->bJ w out[i]:=by
  intro i hi Ac;have:=h1 i Ac hi
  rwa [hg _ hi]at this
 rw[List.pairwise_append,List.pairwise_append];have ht:∀x∈out.take p,∃i,∃h:i<out.length,i<p/\out[i]=x:=by
  intro x hx;obtain⟨i,hi,e⟩:=List.getElem_of_mem hx;rw[bga]at hi;exact⟨i,by omega,by omega,by rw[<-e,List.getElem_take]⟩
 have hd:∀x∈out.drop p,∃i,∃h:i<out.length,p<=i/\out[i]=x:=by
  intro x hx;obtain⟨i,hi,e⟩:=List.getElem_of_mem hx;rw[bgx]at hi;exact⟨p+i,by omega,by omega,by rw[<-e,List.getElem_drop]⟩
 refine⟨⟨hs.sublist (List.take_sublist _ _),by simp,?_⟩,hs.sublist (List.drop_sublist _ _),?_⟩
 ·intro x hx y hy;obtain⟨i,hi,Ac,rfl⟩:=ht x hx;rw[List.mem_singleton.1 hy];exact hlow i hi Ac
 intro x hx y hy;obtain⟨j,hj,hjp,rfl⟩:=hd y hy;rcases List.mem_append.1 hx with hx | hx
 ·obtain⟨i,hi,Ac,rfl⟩:=ht x hx;exact hsp i j hi hj (by omega)
 rw[List.mem_singleton.1 hx];exact hup j hj hjp
theorem xA:∀(l out:List bg),out.Pairwise bJ->(out++l).Nodup->(l.foldl wM out).Pairwise bJ/\(l.foldl wM out).Perm (out++l)
 | [],out,h,_=>⟨h,by simp⟩
 | w::l,out,h,hn=>by
  have hw:w ∉ out:=λhw=>by
   rw[List.nodup_append]at hn;exact hn.2.2 w hw w (by simp) rfl
  have hp:=Df out w;have hperm:(wM out w++l).Perm (out++w::l):=by
   refine(List.Perm.append_right l hp).trans ?_;exact List.perm_middle.symm
  obtain⟨h1,h2⟩:=xA l (wM out w) (GH h hw) (hperm.nodup_iff.2 hn);exact⟨h1,h2.trans hperm⟩
theorem FQ {l:List bg}(hn:l.Nodup):(jG l).Pairwise bJ/\(jG l).Perm l:=by
 have:=xA l [] List.Pairwise.nil (by simpa using hn)
 exact⟨this.1,this.2⟩
theorem zi {l:List bg}(hr:∀x∈l,x.bB=true)(hj:l.Pairwise (λa b=>dK a b=false)):dD (jG l)/\∀k p,Cf (jG l) k p↔Cf l k p:=by
 have hself:∀x∈l,dK x x=true:=λx hx=>by
  have r:=cu (hr x hx);exact(fu _ _).2 ⟨hr x hx,hr x hx,rfl,by omega,by omega⟩
 have hn:l.Nodup:=by
  rw[List.nodup_iff_pairwise_ne];refine(List.Pairwise.imp_of_mem ?_ hj);intro a b ha hb h e;rw[e,hself b hb]at h;cases h
 obtain⟨h1,h2⟩:=FQ hn;have hj2:(jG l).Pairwise (λa b=>dK a b=false):=h2.symm.pairwise hj (fun {x y} h=>by rw[mo];exact h)
 refine⟨⟨λx hx=>hr x (h2.mem_iff.1 hx),?_⟩,KG (λx=>h2.mem_iff)⟩;exact h1.and hj2
def mq(l:List bg)(w:bg):List bg:=jG (kH l w++[became l w])
theorem vT {l:List bg} {w:bg}(hl:dD l)(hw:w.bB=true):dD (mq l w)/\∀k p,Cf (mq l w) k p↔Cf (l++[w]) k p:=by
 have h1:∀x∈kH l w++[became l w],x.bB=true:=by
  intro x hx;rcases List.mem_append.1 hx with hx | hx
  ·exact hl.1 x (mZ.1 hx).1
  rw[List.mem_singleton.1 hx];exact(jh hw).1
 have h2:(kH l w++[became l w]).Pairwise (λa b=>dK a b=false):=by
  rw[List.pairwise_append];refine⟨(hl.2.imp (λh=>h.2)).sublist (List.filter_sublist),by simp,?_⟩
  intro x hx y hy;rw[List.mem_singleton.1 hy];exact vM hl hw hx
 obtain⟨h3,h4⟩:=zi h1 h2;exact⟨h3,λk p=>(h4 k p).trans (Gp hw k p)⟩
def pV(l:List bg)(w:bg):List bg × bg × List Nat:=
 if dD l/\w.bB=true then (mq l w,became l w,lJ l w)else (l,bX,[])
theorem dD.nil:dD []:=⟨by simp,List.Pairwise.nil⟩
end Go.Proofs.YtjeeghafachebaaGreat
