/-
  9.
-/
import Derived.Test.YtjeeghafachebaaGreatU7
import Derived.Test.YtjeeghafachebaaGreatU2
set_option maxRecDepth 100000
namespace Go.Proofs.YtjeeghafachebaaGreat
open Go Go.RowKit Go.Proofs.Tryz
def jv(a b:Int):Array Value:=#[.int .i64 a,.int .i64 b]
theorem qy:(prog.info? 132).map (·.size)=some 2:=by kernel_rfl
theorem zZ(w:World)(o1 o2:Obj):((w.alloc o1).alloc o2).heap[w.heap.size+1]? =some o2:=by
 have h:=bg5 (w.alloc o1) o2;have e:(w.alloc o1).heap.size=w.heap.size+1:=by simp
 rw[e]at h;exact h
theorem Bz(a b:Int):(jv a b).all (·.oneCell')=true:=by
 rw[Array.all_eq_true];intro i hi
 match i,hi with
 | 0,_=>rfl
 | 1,_=>rfl
 | i+2,hi=>
  simp[jv]at hi;omega
theorem Gv(w:World)(a0 a1 b0 b1:Int)(ha:mr a0 a1)(hb:mr b0 b1):
  Calls prog 135 #[.agg (jv a0 a1),.agg (jv b0 b1)] w (bE w (.agg (jv (a0*b0-a1*b1) (a0*b1+a1*b0)))):=by
 unfold mr at ha hb;have k1:=zu (a:=a0) (b:=b0) (A:=1073741824) (B:=1073741824) (by omega) (by omega)
 have k2:=zu (a:=a1) (b:=b1) (A:=1073741824) (B:=1073741824) (by omega) (by omega)
 have k3:=zu (a:=a0) (b:=b1) (A:=1073741824) (B:=1073741824) (by omega) (by omega)
 have k4:=zu (a:=a1) (b:=b0) (A:=1073741824) (B:=1073741824) (by omega) (by omega)
 obtain⟨p1,e1⟩:=Nm (a0*b0);obtain⟨p2,e2⟩:=Nm (a1*b1);obtain⟨p3,e3⟩:=Nm (a0*b1);obtain⟨p4,e4⟩:=Nm (a1*b0);rw[<-e1]at k1;rw[<-e2]at k2;rw[<-e3]at k3;rw[<-e4]at k4;obtain⟨s1,f1⟩:=Nm (p1 - p2);obtain⟨s2,f2⟩:=Nm (p3+p4);have g1:IntKind.i64.wrap p1=p1:=IntWalk.i64_in _ (by omega)
 have g2:IntKind.i64.wrap p2=p2:=IntWalk.i64_in _ (by omega)
 have g3:IntKind.i64.wrap p3=p3:=IntWalk.i64_in _ (by omega)
 have g4:IntKind.i64.wrap p4=p4:=IntWalk.i64_in _ (by omega)
 have g5:IntKind.i64.wrap s1=s1:=IntWalk.i64_in _ (by omega)
 have g6:IntKind.i64.wrap s2=s2:=IntWalk.i64_in _ (by omega)
 rw[<-e1,<-e2,<-e3,<-e4,<-f1,<-f2];replace e1:=e1.symm;replace e2:=e2.symm;replace e3:=e3.symm;replace e4:=e4.symm;replace f1:=f1.symm;replace f2:=f2.symm;clear ha hb k1 k2 k3 k4;unfold jv;go_enter func135,ntmps135;go_wp2_with(fail);obtain⟨W2,hW2⟩:=Nm ((w.alloc (.cells #[.int .i64 a0,.int .i64 a1] 132)).alloc (.cells #[.int .i64 b0,.int .i64 b1] 132));have hs2:W2.heap.size=w.heap.size+1+1:=by rw[hW2];simp
 rw[<-hW2,<-hs2];refine bodyPost_ret (v:=.agg (jv s1 s2)) (results_cell_row rfl _ _ W2.heap.size 132 (jv s1 s2) (0,0) _ rfl (bg5 W2 _) underlying132 rfl qy) rfl ⟨rfl,?_⟩;have hB:Bw w W2:=by rw[hW2];exact((Below.refl _ w).alloc (bfx _) _).alloc (by simp) _
 exact hB.alloc hB.size _
def KO(B0 zb rb K:Nat)(w0:World)(v:Value)(wr:World):Prop:=
 ∃k:Nat,k<=K/\v=.int .i64 (k:Int)/\wr.heap[zb]? =some (.cells (jv (qE k).1 (qE k).2) 132 (0,0))/\wr.heap[rb]? =some (.cells (jv 0 0) 132 (0,0))/\Below B0 w0 wr
theorem JG(w:World)(q:Int):
    Calls prog 112 #[.int .i64 q] w (bE w (.agg (jv (kZ q).1 (kZ q).2))):=by
  obtain⟨k,hk⟩:∃k:Nat,(k:Int)=q % 4:=⟨(q % 4).toNat,by omega⟩
  rw[<-PK q k hk];have hk3:k<=3:=by omega
  obtain⟨r,hr⟩:=Nm (q.tmod 4);have er:q.tmod 4=r:=hr.symm;have og:(0<=r/\r=(k:Int))∨(r<0/\r+4=(k:Int)):=by
    have h:=@Int.tmod_eq_emod q 4
    split at h
    · left
      omega
    · right
      rename_i hn;have:(4:Int).natAbs=4:=rfl;omega
  rcases og with⟨hr0,og⟩ | ⟨hr0,og⟩
  all_goals
    first
    | (have c1:¬r<0:=by omega
       clear hr hk hr0;subst og;go_enter func112,ntmps112;go_wp2_with(fail))
    | (have c1:r<0:=hr0
       have c2:r+4=(k:Int):=og;have c3:IntKind.i64.wrap (r+4)=r+4:=IntWalk.i64_in _ (by omega)
       clear hr hk hr0 og;go_enter func112,ntmps112;go_wp2_with(fail);clear c1 c2 c3)
  all_goals
    obtain⟨wf,hwf⟩:=Nm ((w.alloc (.cells #[.int .i64 0,.int .i64 0] 132)).alloc (.cells #[.int .i64 1,.int .i64 0] 132));rw[<-hwf];obtain⟨rb,hrb⟩:=Nm (w.heap.size);obtain⟨zb,hzb⟩:=Nm (w.heap.size+1);rw[<-hzb,<-hrb];have HW:Hid (wf.heap[zb]? =some (.cells (jv 1 0) 132 (0,0))/\wf.heap[rb]? =some (.cells (jv 0 0) 132 (0,0))/\Bw w wf/\rb=w.heap.size/\zb=w.heap.size+1):=by
      refine⟨?_,?_,?_,hrb,hzb⟩
      · rw[hwf,hzb];exact zZ w _ _
      · rw[hwf,hrb];exact(((Below.refl _ (w.alloc (.cells #[.int .i64 0,.int .i64 0] 132))).alloc (bfx _) _).block w.heap.size (by simp)).trans (bg5 w _)
      · rw[hwf];exact((Below.refl _ w).alloc (bfx _) _).alloc (by simp) _
    clear hwf hrb hzb;have HK3:=Lh hk3;clear hk3;go_loopw[4] (KO w.heap.size zb rb k w) (λv _=>k-(intOf v).toNat)
    case atStart=>exact⟨0,by omega,rfl,HW.out.1,HW.out.2.1,HW.out.2.2.1⟩
    case round=>
      obtain⟨j,hj,rfl,hz,hr,hB⟩:=hrel;obtain⟨x,hx⟩:=Nm ((qE j).1);obtain⟨y,hy⟩:=Nm ((qE j).2);rw[<-hx,<-hy]at hz;have d0:wr.cell? ⟨zb,0,none⟩=some (.int .i64 x):=by rw[cell_of_row _ _ _ _ _ _ hz];rfl
      have d1:wr.cell? ⟨zb,1,none⟩=some (.int .i64 y):=by rw[cell_of_row _ _ _ _ _ _ hz];rfl
      have HR:=Lh (bfy hz (bfy hr (bfy hB (bfy hx hy))));clear hz hr hB hx hy;by_cases hlt:j<k
      · have hlt':(j:Int)<(k:Int):=by omega
        have hjb:(j:Int)<=3:=by have:=HK3.out;omega
        go_wp2_with(fail);have hxy:mr x y:=by
          have:=PI j _ rfl;rw[<-HR.out.2.2.2.1,<-HR.out.2.2.2.2]at this;unfold mr;omega
        refine(Gv wr x y 0 1 hxy (by unfold mr;omega)).mono ?_
        rintro e w3 ⟨rfl,hB3⟩;obtain⟨x2,hx2⟩:=Nm (x*0 - y*1);obtain⟨y2,hy2⟩:=Nm (x*1+y*0);rw[<-hx2,<-hy2];have hz3:w3.heap[zb]? =some (.cells (jv x y) 132 (0,0)):=(hB3.block _ (Array.getElem?_eq_some_iff.1 HR.out.1).1).trans HR.out.1;have hr3:w3.heap[rb]? =some (.cells (jv 0 0) 132 (0,0)):=(hB3.block _ (Array.getElem?_eq_some_iff.1 HR.out.2.1).1).trans HR.out.2.1;have HZ:Hid (KO w.heap.size zb rb k w (.int .i64 ((j:Int)+1)) (w3.setRow zb (jv x2 y2))):=by
          refine⟨j+1,by omega,by go_num,?_,?_,?_⟩
          · have e1:(qE (j+1)).1=x2:=by rw[hx2,HR.out.2.2.2.1,HR.out.2.2.2.2];rfl
            have e2:(qE (j+1)).2=y2:=by rw[hy2,HR.out.2.2.2.1,HR.out.2.2.2.2];rfl
            rw[e1,e2];exact setRow_heap _ _ _ _ _ _ hz3
          · exact(setRow_other _ _ _ _ (by have:=HW.out.2.2.2;omega)).trans hr3
          · have h3:Bw w w3:=HR.out.2.2.1.trans (hB3.mono HR.out.2.2.1.size);exact h3.trans ⟨rfl,rfl,rfl,by simp,λi hi=>setRow_other _ _ _ _ (by have:=HW.out.2.2.2;omega)⟩
        have H3:=Lh hz3;clear hB3 hx2 hy2 hz3 hr3 d0 d1 hxy;dsimp only;go_step;refine bg6 rfl _ _ _ rfl zb (jv x2 y2) rfl rfl 132 (jv x y) H3.out qy rfl (Bz _ _) ?_;go_wp2_with(fail);exact⟨HZ.out,by simp[intOf];omega⟩
      · obtain rfl:j=k:=by omega
        have HE:=Lh (HR.out.2.2.1);go_upto_region 9 with(fail);refine bg4 ?_
        iterate 3 go_step
        refine bg6 rfl _ _ _ rfl rb (jv x y) rfl rfl 132 (jv 0 0) HR.out.2.1 qy rfl (Bz _ _) ?_;have HZ:Hid ((wr.setRow rb (jv x y)).heap[rb]? =some (.cells (jv x y) 132 (0,0))/\Bw w (wr.setRow rb (jv x y))):=
          ⟨setRow_heap _ _ _ _ _ _ HR.out.2.1,HE.out.trans ⟨rfl,rfl,rfl,by simp,λi hi=>setRow_other _ _ _ _ (by have:=HW.out.2.2.2;omega)⟩⟩
        obtain⟨wz,hwz⟩:=Nm (wr.setRow rb (jv x y));rw[<-hwz]at HZ ⊢;have HXY:=Lh (bfy HR.out.2.2.2.1 HR.out.2.2.2.2);clear hwz d0 d1 HR;go_wp2_with(fail);rw[<-HXY.out.1,<-HXY.out.2];exact bodyPost_ret (v:=.agg (jv x y)) (results_cell_row rfl _ _ rb 132 (jv x y) (0,0) _ rfl HZ.out.1 underlying132 rfl qy) rfl ⟨rfl,HZ.out.2⟩
end Go.Proofs.YtjeeghafachebaaGreat
namespace Go.Proofs.YtjeeghafachebaaGreat
open Go Go.RowKit Ieee Go.Proofs.Tryz
theorem KS:jM 13965662444475908096 (-1073741824):=⟨true,4503599627370496,-22,by kernel_rfl,by decide+kernel⟩
theorem wK:jM 4742290407621132288 1073741824:=⟨false,4503599627370496,-22,by kernel_rfl,by decide+kernel⟩
end Go.Proofs.YtjeeghafachebaaGreat
