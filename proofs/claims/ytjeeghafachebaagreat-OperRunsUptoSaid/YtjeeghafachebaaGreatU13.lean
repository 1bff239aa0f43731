/-
  13.
-/
import Derived.Test.YtjeeghafachebaaGreatU6
set_option maxRecDepth 100000
namespace Go.Proofs.YtjeeghafachebaaGreat
open Go Go.RowKit Go.Proofs.Tryz
theorem FB(w:World)(q:bz):Calls prog 46 #[.agg q.cells] w (bE w (.bool q.KA)):=by
 obtain⟨kind,size,slide,late,agg,k⟩:=q;obtain⟨r,hr⟩:=Nm ((bz.mk kind size slide late agg k).KA);rw[<-hr];simp only[bz.KA]at hr;unfold bz.cells;by_cases t0:size<1
 ·obtain rfl:r=false:=by rw[hr,bfq (by omega)];rfl
  clear hr;go_enter func46,ntmps46;go_wp2_with(fail);go_ret;exact⟨rfl,(Below.refl _ w).alloc (bfx _) _⟩
 by_cases t1:1073741824<size
 ·obtain rfl:r=false:=by rw[hr,bfq (by omega)];rfl
  clear hr;go_enter func46,ntmps46;go_wp2_with(fail);go_ret;exact⟨rfl,(Below.refl _ w).alloc (bfx _) _⟩
 rw[bfr (show 1<=size/\size<=1073741824 by omega),bgw]at hr
 by_cases k2:kind=2
 ·subst k2;rw[if_pos rfl]at hr;by_cases s0:slide<1
  ·obtain rfl:r=false:=by rw[hr,bfq (by omega)]
   clear hr;have d0:decide ((1:Int)<=slide)=false:=bfq (by omega)
   go_enter func46,ntmps46;go_wp2_with(fail);go_ret;exact⟨rfl,(Below.refl _ w).alloc (bfx _) _⟩
  have d0:decide ((1:Int)<=slide)=true:=bfr (by omega)
  by_cases s1:size<slide
  ·obtain rfl:r=false:=by rw[hr,bfq (by omega)]
   clear hr;have d1:decide (slide<=size)=false:=bfq (by omega)
   go_enter func46,ntmps46;go_wp2_with(fail);go_ret;exact⟨rfl,(Below.refl _ w).alloc (bfx _) _⟩
  have d1:decide (slide<=size)=true:=bfr (by omega)
  by_cases s2:16*slide<size
  ·obtain rfl:r=false:=by rw[hr,bfq (by omega)]
   clear hr;have d2:decide (size<=16*slide)=false:=bfq (by omega)
   go_enter func46,ntmps46;go_wp2_with(fail);go_ret;exact⟨rfl,(Below.refl _ w).alloc (bfx _) _⟩
  obtain rfl:r=true:=by rw[hr,bfr (by omega)]
  clear hr;have d2:decide (size<=16*slide)=true:=bfr (by omega)
  go_enter func46,ntmps46;go_wp2_with(fail);go_ret;exact⟨rfl,(Below.refl _ w).alloc (bfx _) _⟩
 rw[if_neg k2]at hr;have e2:(kind==2)=false:=by simpa using k2
 by_cases k1:kind=1
 ·subst k1;clear k2 e2;by_cases s0:slide=0
  ·subst s0;obtain rfl:r=true:=by rw[hr];rfl
   clear hr;go_enter func46,ntmps46;go_wp2_with(fail);go_ret;exact⟨rfl,(Below.refl _ w).alloc (bfx _) _⟩
  obtain rfl:r=false:=by rw[hr,bfq (by omega)]
  have e0:(slide==0)=false:=by simpa using s0
  clear hr s0;go_enter func46,ntmps46;go_wp2_with(fail);go_ret;exact⟨rfl,(Below.refl _ w).alloc (bfx _) _⟩
 have e1:(kind==1)=false:=by simpa using k1
 by_cases k3:kind=3
 ·subst k3;clear k2 e2 k1 e1;by_cases s0:slide=0
  ·subst s0;obtain rfl:r=true:=by rw[hr];rfl
   clear hr;go_enter func46,ntmps46;go_wp2_with(fail);go_ret;exact⟨rfl,(Below.refl _ w).alloc (bfx _) _⟩
  obtain rfl:r=false:=by rw[hr,bfq (by omega)]
  have e0:(slide==0)=false:=by simpa using s0
  clear hr s0;go_enter func46,ntmps46;go_wp2_with(fail);go_ret;exact⟨rfl,(Below.refl _ w).alloc (bfx _) _⟩
 have e3:(kind==3)=false:=by simpa using k3
 obtain rfl:r=false:=by rw[hr,bfq (by omega)]
 clear hr k1 k2 k3;go_enter func46,ntmps46;go_wp2_with(fail);go_ret;exact⟨rfl,(Below.refl _ w).alloc (bfx _) _⟩
theorem BB(w:World)(q:bz):Calls prog 47 #[.agg q.cells] w (bE w (.bool q.Gc)):=by
 obtain⟨kind,size,slide,late,agg,k⟩:=q;obtain⟨r,hr⟩:=Nm ((bz.mk kind size slide late agg k).Gc);rw[<-hr];simp only[bz.Gc]at hr;unfold bz.cells;by_cases a6:agg=6
 ·subst a6;rw[if_pos rfl]at hr;by_cases s0:k<1
  ·obtain rfl:r=false:=by rw[hr,bfq (by omega)]
   clear hr;have d0:decide ((1:Int)<=k)=false:=bfq (by omega)
   go_enter func47,ntmps47;go_wp2_with(fail);go_ret;exact⟨rfl,(Below.refl _ w).alloc (bfx _) _⟩
  have d0:decide ((1:Int)<=k)=true:=bfr (by omega)
  by_cases s1:8<k
  ·obtain rfl:r=false:=by rw[hr,bfq (by omega)]
   clear hr;have d1:decide (k<=(8:Int))=false:=bfq (by omega)
   go_enter func47,ntmps47;go_wp2_with(fail);go_ret;exact⟨rfl,(Below.refl _ w).alloc (bfx _) _⟩
  obtain rfl:r=true:=by rw[hr,bfr (by omega)]
  clear hr;have d1:decide (k<=(8:Int))=true:=bfr (by omega)
  go_enter func47,ntmps47;go_wp2_with(fail);go_ret;exact⟨rfl,(Below.refl _ w).alloc (bfx _) _⟩
 rw[if_neg a6]at hr;have e6:(agg==6)=false:=by simpa using a6
 by_cases s0:agg<1
 ·obtain rfl:r=false:=by rw[hr,bfq (by omega)]
  clear hr a6;have d0:decide ((1:Int)<=agg)=false:=bfq (by omega)
  go_enter func47,ntmps47;go_wp2_with(fail);go_ret;exact⟨rfl,(Below.refl _ w).alloc (bfx _) _⟩
 have d0:decide ((1:Int)<=agg)=true:=bfr (by omega)
 by_cases s1:7<agg
 ·obtain rfl:r=false:=by rw[hr,bfq (by omega)]
  clear hr a6;have d1:decide (agg<=(7:Int))=false:=bfq (by omega)
  go_enter func47,ntmps47;go_wp2_with(fail);go_ret;exact⟨rfl,(Below.refl _ w).alloc (bfx _) _⟩
 have d1:decide (agg<=(7:Int))=true:=bfr (by omega)
 by_cases s2:k=0
 ·subst s2;obtain rfl:r=true:=by rw[hr,bfr (by omega)]
  clear hr a6;go_enter func47,ntmps47;go_wp2_with(fail);go_ret;exact⟨rfl,(Below.refl _ w).alloc (bfx _) _⟩
 obtain rfl:r=false:=by rw[hr,bfq (by omega)]
 have e0:(k==0)=false:=by simpa using s2
 clear hr a6 s2;go_enter func47,ntmps47;go_wp2_with(fail);go_ret;exact⟨rfl,(Below.refl _ w).alloc (bfx _) _⟩
theorem Lt(w:World)(q:bz):∀w',Below (w.alloc (.cells q.cells 23)).heap.size (w.alloc (.cells q.cells 23)) w'->∀i v,q.cells[i]? =some v->w'.cell? ⟨w.heap.size,i,none⟩=some v:=by
 intro w' hB i v hi;have hrow:=bg5 w (.cells q.cells 23);rw[cell_of_row w' _ i _ _ _ ((hB.block _ (Array.getElem?_eq_some_iff.1 hrow).1).trans hrow)];exact hi
theorem nN(w:World)(q:bz):Calls prog 28 #[.agg q.cells] w (bE w (.bool q.bB)):=by
 obtain⟨w1,hw1⟩:=Nm (w.alloc (.cells q.cells 23));have HB:Hid (Bw w w1):=by rw[hw1];exact(Below.refl _ w).alloc (bfx _) _
 have HC:Hid (∀w',Bw w1 w'->∀i v,q.cells[i]? =some v->w'.cell? ⟨w.heap.size,i,none⟩=some v):=by rw[hw1];exact Lh (Lt w q)
 have HW:=Lh (FB w1 q);have HA:Hid (∀w',Calls prog 47 #[.agg q.cells] w' (bE w' (.bool q.Gc))):=Lh (λw'=>BB w' q);obtain⟨r,hr⟩:=Nm (q.bB);rw[<-hr];obtain⟨bw,hbw⟩:=Nm (q.KA);obtain⟨ba,uZ⟩:=Nm (q.Gc);rw[bz.bB,<-hbw,<-uZ]at hr;rw[<-hbw]at HW;rw[<-uZ]at HA;clear hbw uZ;obtain⟨kind,size,slide,late,agg,k⟩:=q;unfold bz.cells at hw1 HC HW HA ⊢;simp only at hr;have c0:=HC.out w1 Br 0 _ rfl;have c1:=HC.out w1 Br 1 _ rfl;have c2:=HC.out w1 Br 2 _ rfl;have c3:=HC.out w1 Br 3 _ rfl;have c4:=HC.out w1 Br 4 _ rfl;have c5:=HC.out w1 Br 5 _ rfl
 cases bw with
 | false=>
  obtain rfl:r=false:=by rw[hr];rfl
  clear hr;go_enter func28,ntmps28;go_upto_region 1 with(fail);rw[<-hw1];clear hw1;go_wp2_with(fail);refine HW.out.mono ?_;rintro e w2 ⟨rfl,hB⟩;have H2:=Lh hB;clear hB c0 c1 c2 c3 c4 c5;dsimp only;go_wp2_with(fail);go_ret;exact⟨rfl,Tb HB.out H2.out⟩
 | true=>
  rw[bgw]at hr;by_cases l0:late<0
  ·obtain rfl:r=false:=by rw[hr,bfq (by omega)];rfl
   clear hr;have d0:decide ((0:Int)<=late)=false:=bfq (by omega)
   go_enter func28,ntmps28;go_upto_region 1 with(fail);rw[<-hw1];clear hw1;go_wp2_with(fail);refine HW.out.mono ?_;rintro e w2 ⟨rfl,hB⟩;have H2:=Lh hB;clear hB c0 c1 c2 c3 c4 c5;have c3:=HC.out w2 H2.out 3 _ rfl;dsimp only;go_wp2_with(fail);go_ret;exact⟨rfl,Tb HB.out H2.out⟩
  have d0:decide ((0:Int)<=late)=true:=bfr (by omega)
  by_cases l1:1073741824<late
  ·obtain rfl:r=false:=by rw[hr,bfq (by omega)];rfl
   clear hr;have d1:decide (late<=(1073741824:Int))=false:=bfq (by omega)
   go_enter func28,ntmps28;go_upto_region 1 with(fail);rw[<-hw1];clear hw1;go_wp2_with(fail);refine HW.out.mono ?_;rintro e w2 ⟨rfl,hB⟩;have H2:=Lh hB;clear hB c0 c1 c2 c3 c4 c5;have c3:=HC.out w2 H2.out 3 _ rfl;dsimp only;go_wp2_with(fail);go_ret;exact⟨rfl,Tb HB.out H2.out⟩
  have d1:decide (late<=(1073741824:Int))=true:=bfr (by omega)
  rw[bfr (show 0<=late/\late<=1073741824 by omega),bgw]at hr
  obtain rfl:r=ba:=hr;go_enter func28,ntmps28;go_upto_region 1 with(fail);rw[<-hw1];clear hw1;go_wp2_with(fail);refine HW.out.mono ?_;rintro e w2 ⟨rfl,hB⟩;have H2:=Lh hB;clear hB c0 c1 c2 c3 c4 c5;have c0:=HC.out w2 H2.out 0 _ rfl;have c1:=HC.out w2 H2.out 1 _ rfl;have c2:=HC.out w2 H2.out 2 _ rfl;have c3:=HC.out w2 H2.out 3 _ rfl;have c4:=HC.out w2 H2.out 4 _ rfl;have c5:=HC.out w2 H2.out 5 _ rfl;dsimp only;go_wp2_with(fail);refine(HA.out w2).mono ?_;rintro e w3 ⟨rfl,hB⟩;have H3:=Lh (Tb H2.out hB);clear hB c0 c1 c2 c3 c4 c5;dsimp only;go_wp2_with(fail);go_ret;exact⟨rfl,Tb HB.out H3.out⟩
end Go.Proofs.YtjeeghafachebaaGreat
