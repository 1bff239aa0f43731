/-
  51.
-/
import Derived.Test.YtjeeghafachebaaGreatU6
set_option maxRecDepth 100000
set_option maxHeartbeats 2000000
namespace Go.Proofs.YtjeeghafachebaaGreat
open Go Go.RowKit Go.Proofs.Tryz
def je(l:List bN):Nat:=(l.map λx=>10+x.key.length).sum
theorem Gw {l:List bN} {t:Nat} {x:bN}(h:l[t]? =some x):je (l.take (t+1))=je (l.take t)+(10+x.key.length):=by
 rw[MS h,je,je,bgl,List.sum_append];simp
theorem C9(c:Nat):∀l:List bN,(∀x∈l,x.key.length<=c)->je l<=l.length*(10+c)
 | [],_=>by simp[je]
 | x::l,h=>by
  have h1:=h x (by simp)
  have h2:=C9 c l (λy hy=>h y (by simp[hy]))
  unfold je at h2 ⊢;simp only[bgc,List.sum_cons,bgy,Nat.succ_mul];omega
theorem vI:∀{l:List bN} {x:bN},x∈l->10+x.key.length<=je l
 | y::l,x,h=>by
  unfold je;simp only[bgc,List.sum_cons];rcases List.mem_cons.1 h with rfl | h
  ·omega
  have:=vI h;unfold je at this;omega
theorem p8:∀l:List bN,l.length*10<=je l
 | []=>by simp[je]
 | x::l=>by
  have:=p8 l;unfold je at this ⊢;simp only[bgc,List.sum_cons,bgy];omega
theorem yI:∀(t:Nat) (l:List bN),je (l.take t)<=je l
 | 0,l=>by simp[je]
 | t+1,[]=>by simp[je]
 | t+1,x::l=>by
  have:=yI t l;unfold je at this ⊢;simp only[List.take_succ_cons,bgc,List.sum_cons];omega
def EG(w:World)(l:List bN)(n i:Value)(wr:World):Prop:=∃t:Nat,t<=l.length/\i=.int .i64 (t:Int)/\n=.int .i64 ((je (l.take t):Nat):Int)/\Bw w wr
theorem JH(w:World)(la:Option Addr)(lc:Nat)(l:List bN)(hI:gq w la l)(hq:je l<=1152921504606846976):
  Calls prog 7 #[.slice la l.length lc] w (bE w (.int .i64 ((je l:Nat):Int))):=by
 obtain⟨L,hL⟩:=Nm (l.length);have HP:=Lh (bfy hI (bfy hq (bfy hL trivial)));rw[<-hL];have hL6:L<=1152921504606846976:=by have:=p8 l;omega
 clear hI hq hL;go_enter func7,ntmps7;go_wp2_with(fail);go_loopw[3,8] (EG w l) (λ_ i _=>L-(intOf i).toNat)
 case atStart=>exact⟨0,bgi _,rfl,rfl,Br⟩
 case round=>
  obtain⟨t,ht,rfl,rfl,hB⟩:=hrel;rw[<-HP.out.2.2.1]at ht;by_cases hlt:t<L
  ·have hi0:(0:Int)<=(t:Int)/\(t:Int)<(L:Int):=by omega
   obtain⟨x,pb,po,hx,rfl,d0,d1,d2,d3⟩:=(HP.out.1.below hB).get (t:=t) (by rw[<-HP.out.2.2.1];exact hlt)
   have hxk:=bgn (vI (bf3 hx)) HP.out.2.1;obtain⟨c,hc⟩:=Nm (je (l.take t));have hcl:c<=1152921504606846976:=by
    rw[hc];exact bgn (yI t l) HP.out.2.1
   rw[<-hc];obtain⟨K,hK⟩:=Nm (x.key.length);have hKl:K<=1152921504606846976:=by omega
   have lk:∀w ty,(Builtin.len_ #[9] ty #[Sv x.key]).run prog w=.ok (.int .i64 (K:Int)) w:=λw ty=>by rw[vR w ty x.key,hK]
   obtain⟨wo,hwo⟩:=Nm (wr.alloc (.cells x.cells 42));have hBo:Bw wr wo:=by rw[hwo];exact(Below.refl _ wr).alloc (bfx _) _
   have hrow:wo.heap[wr.heap.size]? =some (.cells x.cells 42 (0,0)):=by rw[hwo];exact bg5 wr _
   have HZ:Hid (EG w l (.int .i64 ((c:Int)+(10+(K:Int)))) (.int .i64 ((t:Int)+1)) wo):=by
    refine Lh ⟨t+1,by rw[<-HP.out.2.2.1];omega,by go_num,?_,Tb hB hBo⟩
    rw[Gw hx,<-hc,<-hK];go_num
   have HL:=Lh hlt;have co1:wo.cell? ⟨wr.heap.size,1,none⟩=some (Sv x.key):=by rw[cell_of_row _ _ 1 _ _ _ hrow];rfl
   unfold bN.cells at hwo;obtain⟨kind,key,time,value⟩:=x;simp only at d0 d1 d2 d3 co1 hwo lk;clear hB hx hxk hc hBo hrow hK;go_upto_region 5 with(fail);rw[<-hwo];clear hwo d0 d1 d2 d3;go_wp2_with(fail);have:=HL.out;exact⟨HZ.out,by simp[intOf];omega⟩
  obtain rfl:t=L:=by omega
  rw[HP.out.2.2.1,bgs];have HB:=Lh hB;clear hB hlt;go_wp2_with(fail);go_ret;exact⟨rfl,HB.out⟩
theorem LV(w:World)(la:Option Addr)(lc:Nat)(l:List bN)(hI:gq w la l)(hk:∀x∈l,x.key.length<=1048576)(hl:l.length<=1048576):
  Calls prog 7 #[.slice la l.length lc] w (bE w (.int .i64 ((je l:Nat):Int))):=by
 refine JH w la lc l hI ?_;have h1:=C9 1048576 l hk;have h3:l.length*(10+1048576)<=1048576*(10+1048576):=Nat.mul_le_mul_right _ hl;omega
end Go.Proofs.YtjeeghafachebaaGreat
