/- 8. -/
import Derived.Test.YtgfmbkoieacgoaaGreatDoorW5
import Derived.Test.YtgfmbkoieacgoaaGreatDoorW6
import Derived.Test.YtgfmbkoieacgoaaGreatDoorW7
set_option maxRecDepth 100000
set_option maxHeartbeats 2000000
namespace Go.Proofs.YtgfmbkoieacgoaaGreatDoor
open Go Go.RowKit Go.Proofs.Tryz
def ItemL.told(x:ItemL):List (BitVec 8):=if x.rightB then x.text else []
theorem Tf(w:World)(x:ItemL)(k:x.key.length<=1000000)(l:x.rightB=false):
  Calls prog 63 #[.agg x.cells] w (Below0 w (Sv [])):=by
 obtain⟨d,a⟩:=Nm (w.alloc (.cells x.cells 32));have h:Hid (Bw w d):=by rw[a];exact(Below.refl _ w).alloc (bfx _) _
 have c:=Lh (eright_any d x k);rw[l]at c;clear l k;obtain⟨m,key,n,j⟩:=x;rw[a]at h c;clear a d;unfold ItemL.cells at h c ⊢;go_enter func63,ntmps63;go_wp2_with fail;refine c.out.mono ?_;rintro e o ⟨rfl,b⟩;have p:Hid (Bw w o):=Tb h.out b;clear b;dsimp only;go_wp2_with fail;go_ret;exact⟨rfl,p.out⟩
theorem right_cases {b:Int} {key:List (BitVec 8)} {c a:Int}(h:(ItemL.mk b key c a).rightB=true):
  (0<=c/\c<=1099511627776)/\((b=2/\key=[]/\a=0)∨(b=1/\nameB key=true/\1<=key.length/\key.length<=16/\ -1099511627776<=a/\a<=1099511627776)):=by
 simp only[ItemL.rightB,bf8,bf0]at h;refine⟨h.1,?_⟩;have d:=h.2
 split at d
 ·rename_i j;exact .inl ⟨j,by simpa using d⟩
 simp only[bf8,bf0]at d;have e:=d.1.2;simp only[nameB,bf8,bf0]at e;exact .inr ⟨d.1.1,d.1.2,e.2.1,e.2.2,d.2.1,d.2.2⟩
theorem Dv(w:World)(x:ItemL)(hr:x.rightB=true)(hT:PowTab w):
    Calls prog 63 #[.agg x.cells] w (Below0 w (Sv x.text)):=by
  obtain⟨j,key,c,b⟩:=x;obtain⟨ht,I⟩:=right_cases hr;have ac:key.length<=16:=by
    rcases I with⟨_,h,_⟩ | h
    · rw[h];decide
    · exact h.2.2.2.1
  have hv: -1099511627776<=b/\b<=1099511627776:=by
    rcases I with⟨_,_,h⟩ | h
    · omega
    · exact h.2.2.2.2
  obtain⟨s,u⟩:=Nm (w.alloc (.cells (ItemL.mk j key c b).cells 32));have HB:Hid (Bw w s):=by rw[u];exact(Below.refl _ w).alloc (bfx _) _
  have y:s.heap[w.heap.size]? =some (.cells (ItemL.mk j key c b).cells 32 (0,0)):=by rw[u];exact bg5 w _
  have F:Hid (∀d,Bw s d->∀i v,(ItemL.mk j key c b).cells[i]? =some v->d.cell? ⟨w.heap.size,i,none⟩=some v):=λd hB i v hi=>by
    rw[cell_of_row d _ i _ _ _ ((hB.block _ (Array.getElem?_eq_some_iff.1 y).1).trans y)];exact hi
  have HR:=Lh (eright_any s (ItemL.mk j key c b) (bgn ac (by decide)))
  rw[hr]at HR;have l1:=itoaL_length c (by omega)
  have l2:=itoaL_length b (by omega)
  obtain⟨at_,J⟩:=Nm (itoaL c);obtain⟨av,L⟩:=Nm (itoaL b);obtain⟨m2,Z⟩:=Nm (bMark++at_);obtain⟨R,M⟩:=Nm (bEvent++key);obtain⟨s2,N⟩:=Nm (R++bBlank);obtain⟨S,O⟩:=Nm (s2++at_);obtain⟨s4,Q⟩:=Nm (S++bBlank);obtain⟨s5,aa⟩:=Nm (s4++av);have ab:Hid ((∀d,Bw w d->Calls prog 50 #[.int .i64 c] d (Below0 d (Sv at_)))/\(∀d,Bw w d->Calls prog 50 #[.int .i64 b] d (Below0 d (Sv av)))):=by
    rw[J,L];exact⟨λd h=>pU d c (by omega) (by omega) (hT.below h),λd h=>pU d b (by omega) (by omega) (hT.below h)⟩
  rw[<-J]at l1;rw[<-L]at l2;have Ap:Hid (∀w,(binOp .add 9 (.string ⟨#[109,97,114,107,32]⟩) (Sv at_)).run prog w=.ok (Sv m2) w):=λw=>by
    rw[Z];exact run_add_Sv w bMark at_ (by have:bMark.length=5:=rfl;omega)
  have q:Hid ((∀w,(binOp .add 9 (.string ⟨#[101,118,101,110,116,32]⟩) (Sv key)).run prog w=.ok (Sv R) w)/\(∀w,(binOp .add 9 (Sv R) (.string ⟨#[32]⟩)).run prog w=.ok (Sv s2) w)/\
      (∀w,(binOp .add 9 (Sv s2) (Sv at_)).run prog w=.ok (Sv S) w)/\(∀w,(binOp .add 9 (Sv S) (.string ⟨#[32]⟩)).run prog w=.ok (Sv s4) w)/\(∀w,(binOp .add 9 (Sv s4) (Sv av)).run prog w=.ok (Sv s5) w)):=by
    have e1:bEvent.length=6:=rfl;have e2:bBlank.length=1:=rfl;have l4:R.length=bEvent.length+key.length:=by rw[M,bft]
    have l5:s2.length=R.length+bBlank.length:=by rw[N,bft]
    have l6:S.length=s2.length+at_.length:=by rw[O,bft]
    have l7:s4.length=S.length+bBlank.length:=by rw[Q,bft]
    exact⟨λw=>by rw[M];exact run_add_Sv w bEvent key (by omega),λw=>by rw[N];exact run_add_Sv w R bBlank (by omega),λw=>by rw[O];exact run_add_Sv w _ _ (by omega),λw=>by rw[Q];exact run_add_Sv w S bBlank (by omega),λw=>by rw[aa];exact run_add_Sv w _ _ (by omega)⟩
  have z:(ItemL.mk j key c b).text=if j=2 then m2 else s5:=by rw[Z,aa,Q,O,N,M,J,L];rfl
  rw[z];have c0:s.cell? ⟨w.heap.size,0,none⟩=some (.int .i64 j):=F.out s Br 0 _ rfl;have c1:s.cell? ⟨w.heap.size,1,none⟩=some (Sv key):=F.out s Br 1 _ rfl;have c2:s.cell? ⟨w.heap.size,2,none⟩=some (.int .i64 c):=F.out s Br 2 _ rfl;have c3:s.cell? ⟨w.heap.size,3,none⟩=some (.int .i64 b):=F.out s Br 3 _ rfl;have k2:j=2∨j=1:=by
    rcases I with h | h
    · exact .inl h.1
    · exact .inr h.1
  unfold ItemL.cells at u HR ⊢;clear y z hT ht hv I hr ac J L Z M N O Q aa l1 l2;rcases k2 with rfl | rfl
  · rw[if_pos rfl];have r:=Ap.out;go_enter func63,ntmps63;go_upto_region 1 with fail;rw[<-u];clear u;go_wp2_with fail;refine HR.out.mono ?_;rintro e U ⟨rfl,D⟩;have H3:=Lh D;clear D c0 c1 c2 c3;have c2:U.cell? ⟨w.heap.size,2,none⟩=some (.int .i64 c):=F.out U H3.out 2 _ rfl;dsimp only;go_wp2_with fail;refine(ab.out.1 U (Tb HB.out H3.out)).mono ?_;rintro e Y ⟨rfl,E⟩;have H4:Hid (Bw s Y):=Lh (Tb H3.out E);clear E c2;have c0:Y.cell? ⟨w.heap.size,0,none⟩=some (.int .i64 2):=F.out Y H4.out 0 _ rfl;dsimp only;go_wp2_with fail;go_ret;exact⟨rfl,Tb HB.out H4.out⟩
  · rw[if_neg (by decide)]
    go_enter func63,ntmps63;go_upto_region 1 with fail;rw[<-u];clear u;go_wp2_with fail;refine HR.out.mono ?_;rintro e U ⟨rfl,D⟩;have H3:=Lh D;clear D c0 c1 c2 c3;have c2:U.cell? ⟨w.heap.size,2,none⟩=some (.int .i64 c):=F.out U H3.out 2 _ rfl;dsimp only;go_wp2_with fail;refine(ab.out.1 U (Tb HB.out H3.out)).mono ?_;rintro e Y ⟨rfl,E⟩;have H4:Hid (Bw s Y):=Lh (Tb H3.out E);clear E c2;have c0:Y.cell? ⟨w.heap.size,0,none⟩=some (.int .i64 1):=F.out Y H4.out 0 _ rfl;have ae:Hid (Bw s Y.drew):=H4.out.drew;dsimp only;go_upto_region 6 with fail;clear c0;refine wp_region_seq_frame (by kernel_rfl) (NoF (NoF [none,none])) [] (vOfC [.pointer (some ⟨w.heap.size,1,none⟩),Sv key,Sv R,Sv s2,Sv at_,Sv S,Sv s4,.pointer (some ⟨w.heap.size,3,none⟩),.int .i64 b,Sv av,Sv s5,Sv s5]) (λ_ d=>Bw s d) (λ_ _=>True) (λ_ _ _ _ _ h=>h) (by kernel_rfl) (by kernel_rfl) (by kernel_rfl) ae.out ⟨trivial,trivial,trivial,trivial,trivial,trivial,trivial,trivial,trivial,trivial,trivial,trivial,trivial⟩ ?_ ?_
    · refine⟨?_,?_,?_,?_,?_,?_,?_,?_,?_,?_,?_,?_,trivial⟩
      · intro k a d l m o K p;have q1:=Eo m 1 (.pointer (some ⟨w.heap.size,0,none⟩));clear m o;go_step;exact p _ _ rfl l trivial
      · intro k a d l m o K p;obtain⟨n,_⟩:=o;have af:=Ep a 15 (.pointer (some ⟨w.heap.size,1,none⟩)) n;have hc:d.cell? ⟨w.heap.size,1,none⟩=some (Sv key):=F.out d l 1 _ rfl;clear m n;go_step;exact p _ _ rfl l trivial
      · intro k a d l m o K p;obtain⟨n,_⟩:=o;have ag:=Ep a 16 (Sv key) n;have r:=q.out.1;clear m n;go_step;exact p _ _ rfl l trivial
      · intro k a d l m o K p;obtain⟨n,_⟩:=o;have ah:=Ep a 17 (Sv R) n;have r:=q.out.2.1;clear m n;go_step;exact p _ _ rfl l trivial
      · intro k a d l m o K p;have q3:=Eo m 3 (Sv at_);clear m o;go_step;exact p _ _ rfl l trivial
      · intro k a d l m o K p;obtain⟨n,p1,_⟩:=o;have ai:=Ep a 18 (Sv s2) n;have aj:=Ep a 19 (Sv at_) p1;have r:=q.out.2.2.1;clear m n p1;go_step;exact p _ _ rfl l trivial
      · intro k a d l m o K p;obtain⟨n,_⟩:=o;have ak:=Ep a 20 (Sv S) n;have r:=q.out.2.2.2.1;clear m n;go_step;exact p _ _ rfl l trivial
      · intro k a d l m o K p;have q1:=Eo m 1 (.pointer (some ⟨w.heap.size,0,none⟩));clear m o;go_step;exact p _ _ rfl l trivial
      · intro k a d l m o K p;obtain⟨n,_⟩:=o;have al:=Ep a 22 (.pointer (some ⟨w.heap.size,3,none⟩)) n;have hc:d.cell? ⟨w.heap.size,3,none⟩=some (.int .i64 b):=F.out d l 3 _ rfl;clear m n;go_step;exact p _ _ rfl l trivial
      · intro k a d l m o K p;obtain⟨n,_⟩:=o;have am:=Pi a 23 b n;have HS:=Lh (ab.out.2 d (Tb HB.out l));clear m n;go_step;refine HS.out.mono ?_;rintro e U ⟨rfl,hB⟩;exact p _ _ rfl (Tb l hB) trivial
      · intro k a d l m o K p;obtain⟨n,p1,_⟩:=o;have an:=Ep a 21 (Sv s4) n;have ao:=Ep a 24 (Sv av) p1;have r:=q.out.2.2.2.2;clear m n p1;go_step;exact p _ _ rfl l trivial
      · intro k a d l m o K p;obtain⟨n,_⟩:=o;have Zq:=Ep a 25 (Sv s5) n;clear m n;go_step;exact p _ _ rfl l trivial
    · intro vs w2 l ad hV
      match vs,ad,hV with
      | [v0,v1,v2,v3,v4,v5,v6,v7,v8,v9,v10,v11],_,hV=>
        obtain rfl:v11=Sv s5:=hV 11 2 v11 rfl rfl;clear hV;simp only[putsL,bf7,bf1];simp only[Act.put,bfw,bfu,bfv];have HZ:Hid (Bw w w2):=Tb HB.out l;clear l;go_wp2_with fail;go_ret;exact⟨rfl,HZ.out⟩
theorem Qk(w:World)(x:ItemL)(a:x.key.length<=1000000)(b:PowTab w):Calls prog 63 #[.agg x.cells] w (Below0 w (Sv x.told)):=by
 unfold ItemL.told
 cases hr:x.rightB with
 | true=>rw[if_pos rfl];exact Dv w x hr b
 | false=>rw[if_neg (by decide)];exact Tf w x a hr
theorem eput_yes(w:World)(X:Nat->Prop)(b:Nat)(l:List (BitVec 8))(x:ItemL)(hr:x.rightB=true)(hP:PenAt X w b l)(hX:∀k,X k->k<w.heap.size)(hl:l.length<=1073700000):
  Calls prog 66 #[.pointer (some ⟨b,0,none⟩),.agg x.cells] w (PenEnd X b w (l++x.bytes) (.bool true)):=by
 obtain⟨j,key,Q,a⟩:=x;obtain⟨ht,N⟩:=right_cases hr;obtain⟨p,rfl⟩:∃n:Nat,Q=(n:Int):=⟨Q.toNat,by omega⟩
 have U:key.length<=16:=by
  rcases N with⟨_,h,_⟩ | h
  ·rw[h];decide
  exact h.2.2.2.1
 have hv: -1099511627776<=a/\a<=1099511627776:=by
  rcases N with⟨_,_,h⟩ | h
  ·omega
  exact h.2.2.2.2
 have aa:=hP.lt;obtain⟨m,z⟩:=Nm (w.alloc (.cells (ItemL.mk j key (p:Int) a).cells 32));have HB:Hid (Bw w m):=by rw[z];exact(Below.refl _ w).alloc (bfx _) _
 have R:m.heap[w.heap.size]? =some (.cells (ItemL.mk j key (p:Int) a).cells 32 (0,0)):=by rw[z];exact bg5 w _
 have E:Hid (∀d,PKept X b m d->∀i v,(ItemL.mk j key (p:Int) a).cells[i]? =some v->d.cell? ⟨w.heap.size,i,none⟩=some v):=λd hK i v hi=>by
  rw[cell_of_row d _ i _ _ _ (hK.row R (by decide) (by omega))]
  exact hi
 have q:Hid (PKept X b w m):=PKept.of_below HB.out;have ab:Hid (PenAt X m b l):=hP.below HB.out;have HR:=Lh (eright_any m (ItemL.mk j key (p:Int) a) (bgn U (by decide)))
 rw[hr]at HR;have lw:∀n,(wordL n).length<=10:=wordL_length;have HN:Hid (∀d o n,n<9223372036854775808->o.length<=1073710000->PenAt X d b o->PKept X b w d->Calls prog 65 #[.pointer (some ⟨b,0,none⟩),.int .i64 ((n:Nat):Int)] d (PenEnd X b d (o++wordL n) (.bool true))):=
  Lh (λd o n hn ac Y S=>pnumber_any d X b n o hn Y (λk s=>Nat.lt_of_lt_of_le (hX k s) S.size) (by omega))
 have HS:Hid (∀d o,o.length<=1073710000->PenAt X d b o->PKept X b w d->Calls prog 68 #[.pointer (some ⟨b,0,none⟩),.int .i64 a] d (PenEnd X b d (o++signedL a) (.tuple #[]))):=
  Lh (λd o ac Y S=>psigned_any d X b a o (by omega) (by omega) Y (λk s=>Nat.lt_of_lt_of_le (hX k s) S.size) (by omega))
 have HT:Hid (∀d r c o,Bw d r->(∀i<key.length,r.cell? ⟨d.heap.size,i,none⟩=some (B (gl key i)))->o.length<=1073710000->PenAt X d b o->PKept X b w d->
   Calls prog 119 #[.pointer (some ⟨b,0,none⟩),.slice (some ⟨d.heap.size,0,none⟩) key.length c] r (λe u=>e=.returned (.bool true)/\PenAt X u b (o++textL key)/\PKept X b d u)):=by
  refine Lh (λd r c o Z hc ac Y S=>?_);have h3:PenAt (λk=>X k∨k=d.heap.size) r b o:=(Y.more _ (λk s=>s.imp id (λe=>by omega))).below Z
  have hs:d.heap.size<r.heap.size∨key.length=0:=by
   by_cases h0:key.length=0
   ·exact .inr h0
   exact .inl (block_lt_of_cell (hc 0 (by omega)))
  have an:b<d.heap.size:=Nat.lt_of_lt_of_le aa S.size;rcases hs with hs | hs
  ·refine(ptext_any r (λk=>X k∨k=d.heap.size) b key.length c (some ⟨d.heap.size,0,none⟩) o key rfl (.inr ⟨_,_,rfl,.inr rfl,by omega,λi hi=>by rw[bgu];exact hc i hi⟩) (by omega) h3 (λk s=>?_) (by omega)).mono ?_
   ·rcases s with s | s
    ·exact Nat.lt_of_lt_of_le (hX k s) (bgn S.size Z.size)
    omega
   rintro e u ⟨rfl,k1,k2⟩;exact⟨rfl,k1.mono λk s=> .inl s,(PKept.of_below Z).trans (k2.mono λk s=> .inl s)⟩
  refine(ptext_any r X b key.length c (some ⟨d.heap.size,0,none⟩) o key rfl (.inl hs) (by omega) (Y.below Z) (λk s=>Nat.lt_of_lt_of_le (hX k s) (bgn S.size Z.size)) (by omega)).mono ?_
  rintro e u ⟨rfl,k1,k2⟩;exact⟨rfl,k1,(PKept.of_below Z).trans k2⟩
 have c0:m.cell? ⟨w.heap.size,0,none⟩=some (.int .i64 j):=E.out m (PKept.refl _ _ _) 0 _ rfl;have c1:m.cell? ⟨w.heap.size,1,none⟩=some (Sv key):=E.out m (PKept.refl _ _ _) 1 _ rfl;have c2:m.cell? ⟨w.heap.size,2,none⟩=some (.int .i64 (p:Int)):=E.out m (PKept.refl _ _ _) 2 _ rfl;have c3:m.cell? ⟨w.heap.size,3,none⟩=some (.int .i64 a):=E.out m (PKept.refl _ _ _) 3 _ rfl;have k2:j=2∨j=1:=by
  rcases N with h | h
  ·exact .inl h.1
  exact .inr h.1
 obtain⟨L,hL⟩:=Nm (l++(ItemL.mk j key (p:Int) a).bytes);rw[<-hL];have M:=Lh (bfy hL (bfy hl (bfy (show p<9223372036854775808 by omega) U)))
 unfold ItemL.cells at z HR ⊢;clear R ht hv N hr hP hX hl hL U aa lw;rcases k2 with rfl | rfl
 ·go_enter func66,ntmps66;go_upto_region 1 with fail;rw[<-z];clear z;go_wp2_with fail;refine HR.out.mono ?_;rintro e u ⟨rfl,D⟩;have O:Hid (PenAt X u b l/\PKept X b m u):=Lh ⟨ab.out.below D,PKept.of_below D⟩;clear D c0 c1 c2 c3;have c0:u.cell? ⟨w.heap.size,0,none⟩=some (.int .i64 2):=E.out u O.out.2 0 _ rfl;dsimp only;go_wp2_with fail;refine(HN.out u l 2 (by decide) (by have:=M.out.2.1;omega) O.out.1 (q.out.trans O.out.2)).mono ?_
  rintro e y ⟨rfl,F,I⟩;have J:Hid (PenAt X y b (l++wordL 2)/\PKept X b m y):=Lh ⟨F,O.out.2.trans I⟩;clear F I c0;have c0:y.cell? ⟨w.heap.size,0,none⟩=some (.int .i64 2):=E.out y J.out.2 0 _ rfl;have c2:y.cell? ⟨w.heap.size,2,none⟩=some (.int .i64 (p:Int)):=E.out y J.out.2 2 _ rfl;dsimp only;go_wp2_with fail;refine(HN.out y (l++wordL 2) p M.out.2.2.1 (by have:=M.out.2.1;have:=wordL_length 2;rw[bft];omega) J.out.1 (q.out.trans J.out.2)).mono ?_
  rintro e w5 ⟨rfl,ad,ae⟩;have H5:Hid (PenAt X w5 b ((l++wordL 2)++wordL p)/\PKept X b m w5):=Lh ⟨ad,J.out.2.trans ae⟩;clear ad ae c0 c2;dsimp only;go_wp2_with fail;go_ret;refine⟨rfl,?_,q.out.trans H5.out.2⟩;have e:L=(l++wordL 2)++wordL p:=by rw[M.out.1,ItemL.bytes,if_pos rfl,bgz];rfl
  rw[e];exact H5.out.1
 go_enter func66,ntmps66;go_upto_region 1 with fail;rw[<-z];clear z;go_wp2_with fail;refine HR.out.mono ?_;rintro e u ⟨rfl,D⟩;have O:Hid (PenAt X u b l/\PKept X b m u):=Lh ⟨ab.out.below D,PKept.of_below D⟩;clear D c0 c1 c2 c3;have c0:u.cell? ⟨w.heap.size,0,none⟩=some (.int .i64 1):=E.out u O.out.2 0 _ rfl;dsimp only;go_wp2_with fail;refine(HN.out u l 1 (by decide) (by have:=M.out.2.1;omega) O.out.1 (q.out.trans O.out.2)).mono ?_
 rintro e y ⟨rfl,F,I⟩;have J:Hid (PenAt X y b (l++wordL 1)/\PKept X b m y):=Lh ⟨F,O.out.2.trans I⟩;clear F I c0;have c0:y.cell? ⟨w.heap.size,0,none⟩=some (.int .i64 1):=E.out y J.out.2 0 _ rfl;have c1:y.cell? ⟨w.heap.size,1,none⟩=some (Sv key):=E.out y J.out.2 1 _ rfl;obtain⟨cc,w5,am,af,K⟩:=conv_bytes y key;have H5:=Lh (bfy af K);clear af K;dsimp only;go_wp2_with fail;refine(HT.out y w5 cc (l++wordL 1) H5.out.1 H5.out.2 (by have:=M.out.2.1;have:=wordL_length 1;rw[bft];omega) J.out.1 (q.out.trans J.out.2)).mono ?_
 rintro e w6 ⟨rfl,ag,ah⟩;have H6:Hid (PenAt X w6 b ((l++wordL 1)++textL key)/\PKept X b m w6):=Lh ⟨ag,J.out.2.trans ah⟩;clear ag ah c0 c1 am;have c2:w6.cell? ⟨w.heap.size,2,none⟩=some (.int .i64 (p:Int)):=E.out w6 H6.out.2 2 _ rfl;have l6:Hid (((l++wordL 1)++textL key).length<=1073700040):=by
  have Y:=M.out.2.1;have S:=M.out.2.2.2;have h3:=wordL_length 1;have h4:=wordL_length key.length;refine Lh ?_;simp only[textL,bft];omega
 dsimp only;go_wp2_with fail;refine(HN.out w6 _ p M.out.2.2.1 (by have:=l6.out;omega) H6.out.1 (q.out.trans H6.out.2)).mono ?_
 rintro e w7 ⟨rfl,ai,aj⟩;have H7:Hid (PenAt X w7 b (((l++wordL 1)++textL key)++wordL p)/\PKept X b m w7):=Lh ⟨ai,H6.out.2.trans aj⟩;clear ai aj c2;have c3:w7.cell? ⟨w.heap.size,3,none⟩=some (.int .i64 a):=E.out w7 H7.out.2 3 _ rfl;dsimp only;go_wp2_with fail;refine(HS.out w7 _ (by have:=l6.out;have:=wordL_length p;rw[bft];omega) H7.out.1 (q.out.trans H7.out.2)).mono ?_
 rintro e w8 ⟨rfl,ak,al⟩;have H8:Hid (PenAt X w8 b ((((l++wordL 1)++textL key)++wordL p)++signedL a)/\PKept X b m w8):=Lh ⟨ak,H7.out.2.trans al⟩;clear ak al c3;dsimp only;go_wp2_with fail;go_ret;refine⟨rfl,?_,q.out.trans H8.out.2⟩;have e:L=(((l++wordL 1)++textL key)++wordL p)++signedL a:=by rw[M.out.1,ItemL.bytes,if_neg (show ¬(1:Int)=2 by decide)];simp only[bgz];rfl
 rw[e];exact H8.out.1
def zeroI:ItemL:=⟨0,[],0,0⟩
def TapeL.item0(t:TapeL):ItemL × TapeL:=
 if (t.number 9223372036854775807).1=1 then
  (⟨1,((t.number 9223372036854775807).2.text 16).1,(((t.number 9223372036854775807).2.text 16).2.number 1099511627776).1,((((t.number 9223372036854775807).2.text 16).2.number 1099511627776).2.signed).1⟩,
   ((((t.number 9223372036854775807).2.text 16).2.number 1099511627776).2.signed).2)
 else if (t.number 9223372036854775807).1=2 then (⟨2,[],((t.number 9223372036854775807).2.number 1099511627776).1,0⟩,((t.number 9223372036854775807).2.number 1099511627776).2)
 else (⟨(t.number 9223372036854775807).1,[],0,0⟩,(t.number 9223372036854775807).2)
def TapeL.last(x:ItemL)(t:TapeL):TapeL:=if x.rightB then t else t.fail 11
def TapeL.item(t:TapeL):ItemL × TapeL:=(if (TapeL.last t.item0.1 t.item0.2).e=0 then t.item0.1 else zeroI,TapeL.last t.item0.1 t.item0.2)
theorem item_size:(prog.info? 32).map (·.size)=some 4:=by kernel_rfl
theorem item_one(x:ItemL):x.cells.all (·.oneCell')=true:=by
 rw[Array.all_eq_true'];intro v a;simp only[ItemL.cells,List.mem_toArray,bf2,bf9,or_false]at a;rcases a with rfl | rfl | rfl | rfl <;> rfl
def GetSt(base b xb:Nat)(w w':World)(t:TapeL)(x:ItemL):Prop:=
 RdAt base w' b t/\w.grownBy w' (some b)/\w'.heap[w.heap.size]? =some (.cells zeroI.cells 32 (0,0))/\w'.heap[xb]? =some (.cells x.cells 32 (0,0))/\w.heap.size<xb/\b<w.heap.size/\base<=w.heap.size
theorem GetSt.cell {a b c:Nat} {w w':World} {t:TapeL} {x:ItemL}(h:GetSt a b c w w' t x)(i:Nat) {v:Value}(d:x.cells[i]? =some v):w'.cell? ⟨c,i,none⟩=some v:=by
 rw[cell_of_row _ _ _ _ _ _ h.2.2.2.1];exact d
theorem GetSt.fro {a b c:Nat} {w w':World} {t:TapeL} {x:ItemL}(h:GetSt a b c w w' t x)(i:Nat):w'.frozen? ⟨c,i,none⟩=false:=frozen_of_row _ _ _ _ _ h.2.2.2.1
theorem GetSt.rd {a b e:Nat} {w w' c:World} {t j:TapeL} {x:ItemL}(h:GetSt a b e w w' t x)(m:RdAt a c b j)(d:w'.grownBy c (some b)):GetSt a b e w c j x:=by
 obtain⟨r,n,k,l,o,p,q⟩:=h;exact⟨m,grown_trans n d,(d.block _ (Array.getElem?_eq_some_iff.1 k).1 (by simp;omega)).trans k,(d.block _ (Array.getElem?_eq_some_iff.1 l).1 (by simp;omega)).trans l,o,p,q⟩
theorem below_gb {w w':World} {b:Option Nat}(h:Bw w w'):w.grownBy w' b:=⟨h.os,h.tape,h.output,h.size,λk a _=>h.block k a⟩
theorem GetSt.below {a b c:Nat} {w w' d:World} {t:TapeL} {x:ItemL}(h:GetSt a b c w w' t x)(e:Bw w' d):GetSt a b c w d t x:=h.rd (h.1.below e) (below_gb e)
theorem GetSt.set {a b c:Nat} {w w':World} {t:TapeL} {x y:ItemL}(h:GetSt a b c w w' t x)(i:Nat)(v:Value)(l:y.cells=x.cells.setIfInBounds i v):GetSt a b c w (w'.setCell ⟨c,i,none⟩ v) t y:=by
 obtain⟨m,d,n,o,p,q,r⟩:=h;refine⟨m.same (heap_setCell_other _ _ _ _ (by show b≠c;omega)) (λk j _ _=>heap_setCell_other _ _ _ _ (by show k≠c;omega)),⟨d.os,d.tape,d.output,by simpa[World.setCell]using d.size,λk j e=>(heap_setCell_other _ _ _ _ (by show k≠c;omega)).trans (d.block k j e)⟩,
  (heap_setCell_other _ _ _ _ (by show w.heap.size≠c;omega)).trans n,?_,p,q,r⟩
 rw[l];exact heap_setCell_same _ _ _ _ _ _ o
theorem GetSt.fin {a b l:Nat} {w w':World} {t:TapeL} {x:ItemL}(h:GetSt a b l w w' t x)(d:Array Value):
  (w'.setRow w.heap.size d).heap[w.heap.size]? =some (.cells d 32 (0,0))/\RdAt a (w'.setRow w.heap.size d) b t/\w.grownBy (w'.setRow w.heap.size d) (some b):=by
 obtain⟨m,c,n,o,p,q,r⟩:=h;exact⟨setRow_heap _ _ _ _ _ _ n,m.same (setRow_other _ _ _ _ (by omega)) (λk j _ _=>setRow_other _ _ _ _ (by omega)),⟨c.os,c.tape,c.output,by simpa[World.setRow]using c.size,λk j e=>(setRow_other _ _ _ _ (by omega)).trans (c.block k j e)⟩⟩
theorem text16_len(t:TapeL):(t.text 16).1.length<=16:=by
 have b:(t.number 16).1<=16:=by
  unfold TapeL.number
  split
  ·simp
  split
  ·simp
  rename_i c d;by_cases a:t.word.2.e=0
  ·simp only;omega
  have:=word_err a;simp only;omega
 rw[text_eq];unfold TapeL.fixed
 split
 ·simp
 split
 ·simp
 split
 ·simp
 simp only[bga];omega
theorem eget_any(w:World)(a b:Nat)(t:TapeL)(h:RdAt a w b t)(hb:a<=w.heap.size):
    Calls prog 70 #[.pointer (some ⟨b,0,none⟩)] w (RdEnd a w b t.item.2 (.agg t.item.1.cells)):=by
  have ae:=h.lt;obtain⟨w0,ah⟩:=Nm (w.alloc (.cells #[.int .i64 0,.string ⟨#[]⟩,.int .i64 0,.int .i64 0] 32));have af:Hid (Bw w w0/\w0.heap[w.heap.size]? =some (.cells zeroI.cells 32 (0,0))):=by
    rw[ah];exact Lh ⟨(Below.refl _ w).alloc (bfx _) _,bg5 w _⟩
  have HN:=Lh (rnumber_any w0 a b t 9223372036854775807 (h.below af.out.1));have HH:=Lh (bfy ae hb);clear ae hb h;obtain⟨k,hk⟩:=Nm ((t.number 9223372036854775807).1);obtain⟨t1,ai⟩:=Nm ((t.number 9223372036854775807).2);rw[<-hk,<-ai]at HN;obtain⟨P,hP⟩:=Nm (RdEnd a w b t.item.2 (.agg t.item.1.cells));rw[<-hP];have HP:=Lh hP;have HK:=Lh (bfy hk ai);clear hk ai hP;go_enter func70,ntmps70;go_upto_region 1 with fail;rw[<-ah];clear ah;go_wp2_with fail;refine HN.out.mono ?_;rintro e w1 ⟨rfl,Y,Z⟩;have H1:=Lh (bfy Y Z);clear Y Z;dsimp only
  iterate 7 go_step
  refine bg6 rfl _ _ _ rfl w1.heap.size (ItemL.mk k [] 0 0).cells rfl rfl 32 zeroI.cells (bg5 w1 _) item_size rfl (item_one _) ?_;obtain⟨p,aj⟩:=Nm (w1.heap.size);obtain⟨w2,ag⟩:=Nm ((w1.alloc (Obj.cells #[.int .i64 0,.string ⟨#[]⟩,.int .i64 0,.int .i64 0] 32)).setRow w1.heap.size (ItemL.mk k [] 0 0).cells);rw[<-ag,<-aj];have S2:Hid (GetSt a b p w w2 t1 ⟨k,[],0,0⟩):=by
    have g1:w.grownBy w1 (some b):=grown_trans (below_gb af.out.1) H1.out.2;have aw:w.heap.size<w0.heap.size:=(Array.getElem?_eq_some_iff.1 af.out.2).1;have az:w0.heap.size<=w1.heap.size:=H1.out.2.size;have ae:=HH.out.1;have ax:=HH.out.2;have ha:Bw w1 (w1.alloc (Obj.cells #[.int .i64 0,.string ⟨#[]⟩,.int .i64 0,.int .i64 0] 32)):=(Below.refl _ w1).alloc (bfx _) _;have ak:Bw w1 w2:=by
      rw[ag];exact ha.trans ⟨rfl,rfl,rfl,by simp[World.setRow],λi hi=>setRow_other _ _ _ _ (by omega)⟩
    refine Lh ⟨H1.out.1.below ak,grown_trans g1 (below_gb ak),(ak.block _ (by omega)).trans ((H1.out.2.block _ aw (by simp;omega)).trans af.out.2),?_,by omega,ae,ax⟩
    rw[ag,aj];exact setRow_heap _ _ _ _ _ _ (bg5 w1 _)
  clear ag aj;have M:w2.cell? ⟨p,0,none⟩=some (.int .i64 k):=S2.out.cell 0 rfl;by_cases E:k=1
  · subst E;go_wp2_with fail;refine(rtext_any w2 a b t1 16 S2.out.1).mono ?_;rintro e w3 ⟨sa,sc,rfl,ab,Y,Z⟩;have S3:=Lh (S2.out.rd Y Z);obtain⟨key,aa⟩:=Nm ((t1.text 16).1);obtain⟨t2,al⟩:=Nm ((t1.text 16).2);rw[<-aa]at ab ⊢;rw[<-al]at S3;have ac:Hid (key.length<=1000000):=Lh (bgn (by rw[aa];exact text16_len t1) (by decide))
    have ar:=Lh (bfy aa al);have ay:(convert 43 9 (.slice sa key.length sc)).run prog w3=.ok (Sv key) w3:=run_conv_str w3 sa sc key ab.srcP;clear ab Y Z aa al M;have f1:=S3.out.fro 1;have g1:w3.cell? ⟨p,1,none⟩=_:=S3.out.cell 1 rfl;have au:(storeCells ⟨p,1,none⟩ [Sv key]).run prog w3=.ok () (w3.setCell ⟨p,1,none⟩ (Sv key)):=by
      rw[run_storeCells_Sv];simp[stored,f1,g1]
    dsimp only;go_wp2_with fail;rw[au];clear au f1 g1 ay;go_upto_region 5 with fail;obtain⟨w4,am⟩:=Nm (w3.setCell ⟨p,1,none⟩ (Sv key));rw[<-am];have S4:Hid (GetSt a b p w w4 t2 ⟨1,key,0,0⟩):=by rw[am];exact Lh (S3.out.set 1 (Sv key) rfl)
    clear am;go_wp2_with fail;refine(rnumber_any w4 a b t2 1099511627776 S4.out.1).mono ?_;rintro e w5 ⟨rfl,Y,Z⟩;have S5:=Lh (S4.out.rd Y Z);obtain⟨m,R⟩:=Nm ((t2.number 1099511627776).1);obtain⟨t3,S⟩:=Nm ((t2.number 1099511627776).2);rw[<-S]at S5;rw[<-R];have ad:=Lh (bfy R S);clear Y Z R S;have f2:=S5.out.fro 2;have g2:w5.cell? ⟨p,2,none⟩=_:=S5.out.cell 2 rfl;dsimp only;go_upto_region 6 with fail;obtain⟨w6,U⟩:=Nm (w5.setCell ⟨p,2,none⟩ (.int .i64 m));rw[<-U];have S6:Hid (GetSt a b p w w6 t3 ⟨1,key,m,0⟩):=by rw[U];exact Lh (S5.out.set 2 (.int .i64 m) rfl)
    clear U f2 g2;go_wp2_with fail;refine(rsigned_any w6 a b t3 S6.out.1).mono ?_;rintro e w7 ⟨rfl,Y,Z⟩;have S7:=Lh (S6.out.rd Y Z);obtain⟨D,an⟩:=Nm (t3.signed.1);obtain⟨t4,ao⟩:=Nm (t3.signed.2);rw[<-ao]at S7;rw[<-an];have av:=Lh (bfy an ao);clear Y Z an ao;have f3:=S7.out.fro 3;have g3:w7.cell? ⟨p,3,none⟩=_:=S7.out.cell 3 rfl;dsimp only;go_upto_region 9 with fail;obtain⟨w8,ap⟩:=Nm (w7.setCell ⟨p,3,none⟩ (.int .i64 D));rw[<-ap];have S8:Hid (GetSt a b p w w8 t4 ⟨1,key,m,D⟩):=by rw[ap];exact Lh (S7.out.set 3 (.int .i64 D) rfl)
    clear ap f3 g3;have HI:Hid (t.item0=(⟨1,key,m,D⟩,t4)):=by
      rw[TapeL.item0,<-HK.out.1,<-HK.out.2,if_pos rfl,<-ar.out.1,<-ar.out.2,<-ad.out.1,<-ad.out.2,<-av.out.1,<-av.out.2];exact Lh rfl
    obtain⟨r,hr⟩:=Nm ((ItemL.mk 1 key m D).rightB);have I:Hid (Calls prog 61 #[.agg (ItemL.mk 1 key m D).cells] w8 (Below0 w8 (.bool r))):=by
      rw[hr];exact eright_any w8 _ ac.out
    have M:w8.cell? ⟨p,0,none⟩=_:=S8.out.cell 0 rfl;have d1:w8.cell? ⟨p,1,none⟩=_:=S8.out.cell 1 rfl;have d2:w8.cell? ⟨p,2,none⟩=_:=S8.out.cell 2 rfl;have d3:w8.cell? ⟨p,3,none⟩=_:=S8.out.cell 3 rfl;unfold ItemL.cells at I;have HQ:Hid (∀s,s=TapeL.last (ItemL.mk 1 key m D) (t4)->t.item=(if s.e=0 then (ItemL.mk 1 key m D)else zeroI,s)):=by
      refine Lh ?_;rintro s rfl;rw[TapeL.item,HI.out]
    have Hr:=Lh hr;clear hr
    cases r with
    | true=>
      go_wp2_with fail;refine I.out.mono ?_;rintro e wr ⟨rfl,x⟩;have c:=Lh (S8.out.below x);clear x M d1 d2 d3;dsimp only;obtain⟨s,u⟩:=Nm t4;rw[<-u]at c;have y:=Lh (HQ.out s (by rw[u,TapeL.last,<-Hr.out];rfl))
      obtain⟨q,z⟩:=Nm (s.e);have N:Hid (Calls prog 74 #[.pointer (some ⟨b,0,none⟩)] wr λe w'=>e=.returned (.int .i64 q)/\w'=wr):=by
        rw[z];exact rerr_any wr a b s c.out.1
      clear u;by_cases d:q=0
      · have J:Hid (∀j,RdAt a j b s->w.grownBy j (some b)->P (.returned (.agg (ItemL.mk 1 key m D).cells)) j):=by
          refine Lh (λj E F=>?_);rw[HP.out,y.out,if_pos (by rw[<-z];exact d)]
          exact⟨rfl,E,F⟩
        clear z;subst d;go_wp2_with fail;refine N.out.mono ?_;rintro e K ⟨rfl,L⟩;subst K;have M:wr.cell? ⟨p,0,none⟩=_:=c.out.cell 0 rfl;have d1:wr.cell? ⟨p,1,none⟩=_:=c.out.cell 1 rfl;have d2:wr.cell? ⟨p,2,none⟩=_:=c.out.cell 2 rfl;have d3:wr.cell? ⟨p,3,none⟩=_:=c.out.cell 3 rfl;dsimp only;go_upto_region 13 with fail;refine bg4 ?_
        first
          | (iterate 1 go_step
             refine bg6 rfl _ _ _ rfl w.heap.size (ItemL.mk 1 key m D).cells rfl rfl 32 zeroI.cells c.out.2.2.1 item_size rfl (item_one _) ?_)
          | (iterate 2 go_step
             refine bg6 rfl _ _ _ rfl w.heap.size (ItemL.mk 1 key m D).cells rfl rfl 32 zeroI.cells c.out.2.2.1 item_size rfl (item_one _) ?_)
          | (iterate 3 go_step
             refine bg6 rfl _ _ _ rfl w.heap.size (ItemL.mk 1 key m D).cells rfl rfl 32 zeroI.cells c.out.2.2.1 item_size rfl (item_one _) ?_)
          | (iterate 4 go_step
             refine bg6 rfl _ _ _ rfl w.heap.size (ItemL.mk 1 key m D).cells rfl rfl 32 zeroI.cells c.out.2.2.1 item_size rfl (item_one _) ?_)
          | (iterate 5 go_step
             refine bg6 rfl _ _ _ rfl w.heap.size (ItemL.mk 1 key m D).cells rfl rfl 32 zeroI.cells c.out.2.2.1 item_size rfl (item_one _) ?_)
          | (iterate 6 go_step
             refine bg6 rfl _ _ _ rfl w.heap.size (ItemL.mk 1 key m D).cells rfl rfl 32 zeroI.cells c.out.2.2.1 item_size rfl (item_one _) ?_)
        have o:=Lh (c.out.fin (ItemL.mk 1 key m D).cells);obtain⟨j,l⟩:=Nm (wr.setRow w.heap.size (ItemL.mk 1 key m D).cells);rw[<-l]at o ⊢;clear l;go_wp2_with fail;exact bodyPost_ret (v:=.agg (ItemL.mk 1 key m D).cells) (results_cell_row rfl _ _ w.heap.size 32 (ItemL.mk 1 key m D).cells (0,0) _ rfl o.out.1 underlying32 rfl item_size) rfl (J.out _ o.out.2.1 o.out.2.2)
      · have J:Hid (∀j,RdAt a j b s->w.grownBy j (some b)->P (.returned (.agg (zeroI).cells)) j):=by
          refine Lh (λj E F=>?_);rw[HP.out,y.out,if_neg (by rw[<-z];exact d)]
          exact⟨rfl,E,F⟩
        have e1:(q !=0)=true:=by simpa using d
        clear z d;go_wp2_with fail;refine N.out.mono ?_;rintro e K ⟨rfl,L⟩;subst K;dsimp only;go_upto_region 12 with fail;refine bg4 ?_
        first
          | (iterate 1 go_step
             refine bg6 rfl _ _ _ rfl w.heap.size (zeroI).cells rfl rfl 32 zeroI.cells c.out.2.2.1 item_size rfl (item_one _) ?_)
          | (iterate 2 go_step
             refine bg6 rfl _ _ _ rfl w.heap.size (zeroI).cells rfl rfl 32 zeroI.cells c.out.2.2.1 item_size rfl (item_one _) ?_)
          | (iterate 3 go_step
             refine bg6 rfl _ _ _ rfl w.heap.size (zeroI).cells rfl rfl 32 zeroI.cells c.out.2.2.1 item_size rfl (item_one _) ?_)
          | (iterate 4 go_step
             refine bg6 rfl _ _ _ rfl w.heap.size (zeroI).cells rfl rfl 32 zeroI.cells c.out.2.2.1 item_size rfl (item_one _) ?_)
          | (iterate 5 go_step
             refine bg6 rfl _ _ _ rfl w.heap.size (zeroI).cells rfl rfl 32 zeroI.cells c.out.2.2.1 item_size rfl (item_one _) ?_)
          | (iterate 6 go_step
             refine bg6 rfl _ _ _ rfl w.heap.size (zeroI).cells rfl rfl 32 zeroI.cells c.out.2.2.1 item_size rfl (item_one _) ?_)
        have o:=Lh (c.out.fin (zeroI).cells);obtain⟨j,l⟩:=Nm (wr.setRow w.heap.size (zeroI).cells);rw[<-l]at o ⊢;clear l;go_wp2_with fail;exact bodyPost_ret (v:=.agg (zeroI).cells) (results_cell_row rfl _ _ w.heap.size 32 (zeroI).cells (0,0) _ rfl o.out.1 underlying32 rfl item_size) rfl (J.out _ o.out.2.1 o.out.2.2)
    | false=>
      go_wp2_with fail;refine I.out.mono ?_;rintro e wr ⟨rfl,x⟩;have c:=Lh (S8.out.below x);clear x M d1 d2 d3;dsimp only;go_wp2_with fail;refine(rfail_any wr a b (t4) 11 c.out.1).mono ?_;rintro e wf ⟨rfl,O,Q⟩;have n:=Lh (c.out.rd O Q);clear O Q;dsimp only;obtain⟨s,u⟩:=Nm ((t4).fail 11);rw[<-u]at n;have y:=Lh (HQ.out s (by rw[u,TapeL.last,<-Hr.out];rfl))
      obtain⟨q,z⟩:=Nm (s.e);have N:Hid (Calls prog 74 #[.pointer (some ⟨b,0,none⟩)] wf λe w'=>e=.returned (.int .i64 q)/\w'=wf):=by
        rw[z];exact rerr_any wf a b s n.out.1
      clear u;by_cases d:q=0
      · have J:Hid (∀j,RdAt a j b s->w.grownBy j (some b)->P (.returned (.agg (ItemL.mk 1 key m D).cells)) j):=by
          refine Lh (λj E F=>?_);rw[HP.out,y.out,if_pos (by rw[<-z];exact d)]
          exact⟨rfl,E,F⟩
        clear z;subst d;go_wp2_with fail;refine N.out.mono ?_;rintro e K ⟨rfl,L⟩;subst K;have M:wf.cell? ⟨p,0,none⟩=_:=n.out.cell 0 rfl;have d1:wf.cell? ⟨p,1,none⟩=_:=n.out.cell 1 rfl;have d2:wf.cell? ⟨p,2,none⟩=_:=n.out.cell 2 rfl;have d3:wf.cell? ⟨p,3,none⟩=_:=n.out.cell 3 rfl;dsimp only;go_upto_region 13 with fail;refine bg4 ?_
        first
          | (iterate 1 go_step
             refine bg6 rfl _ _ _ rfl w.heap.size (ItemL.mk 1 key m D).cells rfl rfl 32 zeroI.cells n.out.2.2.1 item_size rfl (item_one _) ?_)
          | (iterate 2 go_step
             refine bg6 rfl _ _ _ rfl w.heap.size (ItemL.mk 1 key m D).cells rfl rfl 32 zeroI.cells n.out.2.2.1 item_size rfl (item_one _) ?_)
          | (iterate 3 go_step
             refine bg6 rfl _ _ _ rfl w.heap.size (ItemL.mk 1 key m D).cells rfl rfl 32 zeroI.cells n.out.2.2.1 item_size rfl (item_one _) ?_)
          | (iterate 4 go_step
             refine bg6 rfl _ _ _ rfl w.heap.size (ItemL.mk 1 key m D).cells rfl rfl 32 zeroI.cells n.out.2.2.1 item_size rfl (item_one _) ?_)
          | (iterate 5 go_step
             refine bg6 rfl _ _ _ rfl w.heap.size (ItemL.mk 1 key m D).cells rfl rfl 32 zeroI.cells n.out.2.2.1 item_size rfl (item_one _) ?_)
          | (iterate 6 go_step
             refine bg6 rfl _ _ _ rfl w.heap.size (ItemL.mk 1 key m D).cells rfl rfl 32 zeroI.cells n.out.2.2.1 item_size rfl (item_one _) ?_)
        have o:=Lh (n.out.fin (ItemL.mk 1 key m D).cells);obtain⟨j,l⟩:=Nm (wf.setRow w.heap.size (ItemL.mk 1 key m D).cells);rw[<-l]at o ⊢;clear l;go_wp2_with fail;exact bodyPost_ret (v:=.agg (ItemL.mk 1 key m D).cells) (results_cell_row rfl _ _ w.heap.size 32 (ItemL.mk 1 key m D).cells (0,0) _ rfl o.out.1 underlying32 rfl item_size) rfl (J.out _ o.out.2.1 o.out.2.2)
      · have J:Hid (∀j,RdAt a j b s->w.grownBy j (some b)->P (.returned (.agg (zeroI).cells)) j):=by
          refine Lh (λj E F=>?_);rw[HP.out,y.out,if_neg (by rw[<-z];exact d)]
          exact⟨rfl,E,F⟩
        have e1:(q !=0)=true:=by simpa using d
        clear z d;go_wp2_with fail;refine N.out.mono ?_;rintro e K ⟨rfl,L⟩;subst K;dsimp only;go_upto_region 12 with fail;refine bg4 ?_
        first
          | (iterate 1 go_step
             refine bg6 rfl _ _ _ rfl w.heap.size (zeroI).cells rfl rfl 32 zeroI.cells n.out.2.2.1 item_size rfl (item_one _) ?_)
          | (iterate 2 go_step
             refine bg6 rfl _ _ _ rfl w.heap.size (zeroI).cells rfl rfl 32 zeroI.cells n.out.2.2.1 item_size rfl (item_one _) ?_)
          | (iterate 3 go_step
             refine bg6 rfl _ _ _ rfl w.heap.size (zeroI).cells rfl rfl 32 zeroI.cells n.out.2.2.1 item_size rfl (item_one _) ?_)
          | (iterate 4 go_step
             refine bg6 rfl _ _ _ rfl w.heap.size (zeroI).cells rfl rfl 32 zeroI.cells n.out.2.2.1 item_size rfl (item_one _) ?_)
          | (iterate 5 go_step
             refine bg6 rfl _ _ _ rfl w.heap.size (zeroI).cells rfl rfl 32 zeroI.cells n.out.2.2.1 item_size rfl (item_one _) ?_)
          | (iterate 6 go_step
             refine bg6 rfl _ _ _ rfl w.heap.size (zeroI).cells rfl rfl 32 zeroI.cells n.out.2.2.1 item_size rfl (item_one _) ?_)
        have o:=Lh (n.out.fin (zeroI).cells);obtain⟨j,l⟩:=Nm (wf.setRow w.heap.size (zeroI).cells);rw[<-l]at o ⊢;clear l;go_wp2_with fail;exact bodyPost_ret (v:=.agg (zeroI).cells) (results_cell_row rfl _ _ w.heap.size 32 (zeroI).cells (0,0) _ rfl o.out.1 underlying32 rfl item_size) rfl (J.out _ o.out.2.1 o.out.2.2)
  · by_cases F:k=2
    · subst F;go_wp2_with fail;refine(rnumber_any w2 a b t1 1099511627776 S2.out.1).mono ?_;rintro e w5 ⟨rfl,Y,Z⟩;have S5:=Lh (S2.out.rd Y Z);obtain⟨m,R⟩:=Nm ((t1.number 1099511627776).1);obtain⟨t3,S⟩:=Nm ((t1.number 1099511627776).2);rw[<-S]at S5;rw[<-R];have ad:=Lh (bfy R S);clear Y Z R S M E;have f2:=S5.out.fro 2;have g2:w5.cell? ⟨p,2,none⟩=_:=S5.out.cell 2 rfl;dsimp only;go_upto_region 9 with fail;obtain⟨w6,U⟩:=Nm (w5.setCell ⟨p,2,none⟩ (.int .i64 m));rw[<-U];have S6:Hid (GetSt a b p w w6 t3 ⟨2,[],m,0⟩):=by rw[U];exact Lh (S5.out.set 2 (.int .i64 m) rfl)
      clear U f2 g2;have HI:Hid (t.item0=(⟨2,[],m,0⟩,t3)):=by
        rw[TapeL.item0,<-HK.out.1,<-HK.out.2,if_neg (by decide),if_pos rfl,<-ad.out.1,<-ad.out.2]
        exact Lh rfl
      have ac:Hid (([]:List (BitVec 8)).length<=1000000):=Lh (by decide)
      obtain⟨r,hr⟩:=Nm ((ItemL.mk 2 [] m 0).rightB);have I:Hid (Calls prog 61 #[.agg (ItemL.mk 2 [] m 0).cells] w6 (Below0 w6 (.bool r))):=by
        rw[hr];exact eright_any w6 _ ac.out
      have M:w6.cell? ⟨p,0,none⟩=_:=S6.out.cell 0 rfl;have d1:w6.cell? ⟨p,1,none⟩=_:=S6.out.cell 1 rfl;have d2:w6.cell? ⟨p,2,none⟩=_:=S6.out.cell 2 rfl;have d3:w6.cell? ⟨p,3,none⟩=_:=S6.out.cell 3 rfl;unfold ItemL.cells at I;have HQ:Hid (∀s,s=TapeL.last (ItemL.mk 2 [] m 0) (t3)->t.item=(if s.e=0 then (ItemL.mk 2 [] m 0)else zeroI,s)):=by
        refine Lh ?_;rintro s rfl;rw[TapeL.item,HI.out]
      have Hr:=Lh hr;clear hr
      cases r with
      | true=>
        go_wp2_with fail;refine I.out.mono ?_;rintro e wr ⟨rfl,x⟩;have c:=Lh (S6.out.below x);clear x M d1 d2 d3;dsimp only;obtain⟨s,u⟩:=Nm t3;rw[<-u]at c;have y:=Lh (HQ.out s (by rw[u,TapeL.last,<-Hr.out];rfl))
        obtain⟨q,z⟩:=Nm (s.e);have N:Hid (Calls prog 74 #[.pointer (some ⟨b,0,none⟩)] wr λe w'=>e=.returned (.int .i64 q)/\w'=wr):=by
          rw[z];exact rerr_any wr a b s c.out.1
        clear u;by_cases d:q=0
        · have J:Hid (∀j,RdAt a j b s->w.grownBy j (some b)->P (.returned (.agg (ItemL.mk 2 [] m 0).cells)) j):=by
            refine Lh (λj E F=>?_);rw[HP.out,y.out,if_pos (by rw[<-z];exact d)]
            exact⟨rfl,E,F⟩
          clear z;subst d;go_wp2_with fail;refine N.out.mono ?_;rintro e K ⟨rfl,L⟩;subst K;have M:wr.cell? ⟨p,0,none⟩=_:=c.out.cell 0 rfl;have d1:wr.cell? ⟨p,1,none⟩=_:=c.out.cell 1 rfl;have d2:wr.cell? ⟨p,2,none⟩=_:=c.out.cell 2 rfl;have d3:wr.cell? ⟨p,3,none⟩=_:=c.out.cell 3 rfl;dsimp only;go_upto_region 13 with fail;refine bg4 ?_
          first
            | (iterate 1 go_step
               refine bg6 rfl _ _ _ rfl w.heap.size (ItemL.mk 2 [] m 0).cells rfl rfl 32 zeroI.cells c.out.2.2.1 item_size rfl (item_one _) ?_)
            | (iterate 2 go_step
               refine bg6 rfl _ _ _ rfl w.heap.size (ItemL.mk 2 [] m 0).cells rfl rfl 32 zeroI.cells c.out.2.2.1 item_size rfl (item_one _) ?_)
            | (iterate 3 go_step
               refine bg6 rfl _ _ _ rfl w.heap.size (ItemL.mk 2 [] m 0).cells rfl rfl 32 zeroI.cells c.out.2.2.1 item_size rfl (item_one _) ?_)
            | (iterate 4 go_step
               refine bg6 rfl _ _ _ rfl w.heap.size (ItemL.mk 2 [] m 0).cells rfl rfl 32 zeroI.cells c.out.2.2.1 item_size rfl (item_one _) ?_)
            | (iterate 5 go_step
               refine bg6 rfl _ _ _ rfl w.heap.size (ItemL.mk 2 [] m 0).cells rfl rfl 32 zeroI.cells c.out.2.2.1 item_size rfl (item_one _) ?_)
            | (iterate 6 go_step
               refine bg6 rfl _ _ _ rfl w.heap.size (ItemL.mk 2 [] m 0).cells rfl rfl 32 zeroI.cells c.out.2.2.1 item_size rfl (item_one _) ?_)
          have o:=Lh (c.out.fin (ItemL.mk 2 [] m 0).cells);obtain⟨j,l⟩:=Nm (wr.setRow w.heap.size (ItemL.mk 2 [] m 0).cells);rw[<-l]at o ⊢;clear l;go_wp2_with fail;exact bodyPost_ret (v:=.agg (ItemL.mk 2 [] m 0).cells) (results_cell_row rfl _ _ w.heap.size 32 (ItemL.mk 2 [] m 0).cells (0,0) _ rfl o.out.1 underlying32 rfl item_size) rfl (J.out _ o.out.2.1 o.out.2.2)
        · have J:Hid (∀j,RdAt a j b s->w.grownBy j (some b)->P (.returned (.agg (zeroI).cells)) j):=by
            refine Lh (λj E F=>?_);rw[HP.out,y.out,if_neg (by rw[<-z];exact d)]
            exact⟨rfl,E,F⟩
          have e1:(q !=0)=true:=by simpa using d
          clear z d;go_wp2_with fail;refine N.out.mono ?_;rintro e K ⟨rfl,L⟩;subst K;dsimp only;go_upto_region 12 with fail;refine bg4 ?_
          first
            | (iterate 1 go_step
               refine bg6 rfl _ _ _ rfl w.heap.size (zeroI).cells rfl rfl 32 zeroI.cells c.out.2.2.1 item_size rfl (item_one _) ?_)
            | (iterate 2 go_step
               refine bg6 rfl _ _ _ rfl w.heap.size (zeroI).cells rfl rfl 32 zeroI.cells c.out.2.2.1 item_size rfl (item_one _) ?_)
            | (iterate 3 go_step
               refine bg6 rfl _ _ _ rfl w.heap.size (zeroI).cells rfl rfl 32 zeroI.cells c.out.2.2.1 item_size rfl (item_one _) ?_)
            | (iterate 4 go_step
               refine bg6 rfl _ _ _ rfl w.heap.size (zeroI).cells rfl rfl 32 zeroI.cells c.out.2.2.1 item_size rfl (item_one _) ?_)
            | (iterate 5 go_step
               refine bg6 rfl _ _ _ rfl w.heap.size (zeroI).cells rfl rfl 32 zeroI.cells c.out.2.2.1 item_size rfl (item_one _) ?_)
            | (iterate 6 go_step
               refine bg6 rfl _ _ _ rfl w.heap.size (zeroI).cells rfl rfl 32 zeroI.cells c.out.2.2.1 item_size rfl (item_one _) ?_)
          have o:=Lh (c.out.fin (zeroI).cells);obtain⟨j,l⟩:=Nm (wr.setRow w.heap.size (zeroI).cells);rw[<-l]at o ⊢;clear l;go_wp2_with fail;exact bodyPost_ret (v:=.agg (zeroI).cells) (results_cell_row rfl _ _ w.heap.size 32 (zeroI).cells (0,0) _ rfl o.out.1 underlying32 rfl item_size) rfl (J.out _ o.out.2.1 o.out.2.2)
      | false=>
        go_wp2_with fail;refine I.out.mono ?_;rintro e wr ⟨rfl,x⟩;have c:=Lh (S6.out.below x);clear x M d1 d2 d3;dsimp only;go_wp2_with fail;refine(rfail_any wr a b (t3) 11 c.out.1).mono ?_;rintro e wf ⟨rfl,O,Q⟩;have n:=Lh (c.out.rd O Q);clear O Q;dsimp only;obtain⟨s,u⟩:=Nm ((t3).fail 11);rw[<-u]at n;have y:=Lh (HQ.out s (by rw[u,TapeL.last,<-Hr.out];rfl))
        obtain⟨q,z⟩:=Nm (s.e);have N:Hid (Calls prog 74 #[.pointer (some ⟨b,0,none⟩)] wf λe w'=>e=.returned (.int .i64 q)/\w'=wf):=by
          rw[z];exact rerr_any wf a b s n.out.1
        clear u;by_cases d:q=0
        · have J:Hid (∀j,RdAt a j b s->w.grownBy j (some b)->P (.returned (.agg (ItemL.mk 2 [] m 0).cells)) j):=by
            refine Lh (λj E F=>?_);rw[HP.out,y.out,if_pos (by rw[<-z];exact d)]
            exact⟨rfl,E,F⟩
          clear z;subst d;go_wp2_with fail;refine N.out.mono ?_;rintro e K ⟨rfl,L⟩;subst K;have M:wf.cell? ⟨p,0,none⟩=_:=n.out.cell 0 rfl;have d1:wf.cell? ⟨p,1,none⟩=_:=n.out.cell 1 rfl;have d2:wf.cell? ⟨p,2,none⟩=_:=n.out.cell 2 rfl;have d3:wf.cell? ⟨p,3,none⟩=_:=n.out.cell 3 rfl;dsimp only;go_upto_region 13 with fail;refine bg4 ?_
          first
            | (iterate 1 go_step
               refine bg6 rfl _ _ _ rfl w.heap.size (ItemL.mk 2 [] m 0).cells rfl rfl 32 zeroI.cells n.out.2.2.1 item_size rfl (item_one _) ?_)
            | (iterate 2 go_step
               refine bg6 rfl _ _ _ rfl w.heap.size (ItemL.mk 2 [] m 0).cells rfl rfl 32 zeroI.cells n.out.2.2.1 item_size rfl (item_one _) ?_)
            | (iterate 3 go_step
               refine bg6 rfl _ _ _ rfl w.heap.size (ItemL.mk 2 [] m 0).cells rfl rfl 32 zeroI.cells n.out.2.2.1 item_size rfl (item_one _) ?_)
            | (iterate 4 go_step
               refine bg6 rfl _ _ _ rfl w.heap.size (ItemL.mk 2 [] m 0).cells rfl rfl 32 zeroI.cells n.out.2.2.1 item_size rfl (item_one _) ?_)
            | (iterate 5 go_step
               refine bg6 rfl _ _ _ rfl w.heap.size (ItemL.mk 2 [] m 0).cells rfl rfl 32 zeroI.cells n.out.2.2.1 item_size rfl (item_one _) ?_)
            | (iterate 6 go_step
               refine bg6 rfl _ _ _ rfl w.heap.size (ItemL.mk 2 [] m 0).cells rfl rfl 32 zeroI.cells n.out.2.2.1 item_size rfl (item_one _) ?_)
          have o:=Lh (n.out.fin (ItemL.mk 2 [] m 0).cells);obtain⟨j,l⟩:=Nm (wf.setRow w.heap.size (ItemL.mk 2 [] m 0).cells);rw[<-l]at o ⊢;clear l;go_wp2_with fail;exact bodyPost_ret (v:=.agg (ItemL.mk 2 [] m 0).cells) (results_cell_row rfl _ _ w.heap.size 32 (ItemL.mk 2 [] m 0).cells (0,0) _ rfl o.out.1 underlying32 rfl item_size) rfl (J.out _ o.out.2.1 o.out.2.2)
        · have J:Hid (∀j,RdAt a j b s->w.grownBy j (some b)->P (.returned (.agg (zeroI).cells)) j):=by
            refine Lh (λj E F=>?_);rw[HP.out,y.out,if_neg (by rw[<-z];exact d)]
            exact⟨rfl,E,F⟩
          have e1:(q !=0)=true:=by simpa using d
          clear z d;go_wp2_with fail;refine N.out.mono ?_;rintro e K ⟨rfl,L⟩;subst K;dsimp only;go_upto_region 12 with fail;refine bg4 ?_
          first
            | (iterate 1 go_step
               refine bg6 rfl _ _ _ rfl w.heap.size (zeroI).cells rfl rfl 32 zeroI.cells n.out.2.2.1 item_size rfl (item_one _) ?_)
            | (iterate 2 go_step
               refine bg6 rfl _ _ _ rfl w.heap.size (zeroI).cells rfl rfl 32 zeroI.cells n.out.2.2.1 item_size rfl (item_one _) ?_)
            | (iterate 3 go_step
               refine bg6 rfl _ _ _ rfl w.heap.size (zeroI).cells rfl rfl 32 zeroI.cells n.out.2.2.1 item_size rfl (item_one _) ?_)
            | (iterate 4 go_step
               refine bg6 rfl _ _ _ rfl w.heap.size (zeroI).cells rfl rfl 32 zeroI.cells n.out.2.2.1 item_size rfl (item_one _) ?_)
            | (iterate 5 go_step
               refine bg6 rfl _ _ _ rfl w.heap.size (zeroI).cells rfl rfl 32 zeroI.cells n.out.2.2.1 item_size rfl (item_one _) ?_)
            | (iterate 6 go_step
               refine bg6 rfl _ _ _ rfl w.heap.size (zeroI).cells rfl rfl 32 zeroI.cells n.out.2.2.1 item_size rfl (item_one _) ?_)
          have o:=Lh (n.out.fin (zeroI).cells);obtain⟨j,l⟩:=Nm (wf.setRow w.heap.size (zeroI).cells);rw[<-l]at o ⊢;clear l;go_wp2_with fail;exact bodyPost_ret (v:=.agg (zeroI).cells) (results_cell_row rfl _ _ w.heap.size 32 (zeroI).cells (0,0) _ rfl o.out.1 underlying32 rfl item_size) rfl (J.out _ o.out.2.1 o.out.2.2)
    · have HI:Hid (t.item0=(⟨k,[],0,0⟩,t1)):=by
        rw[TapeL.item0,<-HK.out.1,<-HK.out.2,if_neg E,if_neg F];exact Lh rfl
      have ac:Hid (([]:List (BitVec 8)).length<=1000000):=Lh (by decide)
      have e1:(k==1)=false:=by simpa using E
      have e2:(k==2)=false:=by simpa using F
      clear E F;go_upto_region 9 with fail;clear M e1 e2;obtain⟨r,hr⟩:=Nm ((ItemL.mk k [] 0 0).rightB);have I:Hid (Calls prog 61 #[.agg (ItemL.mk k [] 0 0).cells] w2 (Below0 w2 (.bool r))):=by
        rw[hr];exact eright_any w2 _ ac.out
      have M:w2.cell? ⟨p,0,none⟩=_:=S2.out.cell 0 rfl;have d1:w2.cell? ⟨p,1,none⟩=_:=S2.out.cell 1 rfl;have d2:w2.cell? ⟨p,2,none⟩=_:=S2.out.cell 2 rfl;have d3:w2.cell? ⟨p,3,none⟩=_:=S2.out.cell 3 rfl;unfold ItemL.cells at I;have HQ:Hid (∀s,s=TapeL.last (ItemL.mk k [] 0 0) (t1)->t.item=(if s.e=0 then (ItemL.mk k [] 0 0)else zeroI,s)):=by
        refine Lh ?_;rintro s rfl;rw[TapeL.item,HI.out]
      have Hr:=Lh hr;clear hr
      cases r with
      | true=>
        go_wp2_with fail;refine I.out.mono ?_;rintro e wr ⟨rfl,x⟩;have c:=Lh (S2.out.below x);clear x M d1 d2 d3;dsimp only;obtain⟨s,u⟩:=Nm t1;rw[<-u]at c;have y:=Lh (HQ.out s (by rw[u,TapeL.last,<-Hr.out];rfl))
        obtain⟨q,z⟩:=Nm (s.e);have N:Hid (Calls prog 74 #[.pointer (some ⟨b,0,none⟩)] wr λe w'=>e=.returned (.int .i64 q)/\w'=wr):=by
          rw[z];exact rerr_any wr a b s c.out.1
        clear u;by_cases d:q=0
        · have J:Hid (∀j,RdAt a j b s->w.grownBy j (some b)->P (.returned (.agg (ItemL.mk k [] 0 0).cells)) j):=by
            refine Lh (λj E F=>?_);rw[HP.out,y.out,if_pos (by rw[<-z];exact d)]
            exact⟨rfl,E,F⟩
          clear z;subst d;go_wp2_with fail;refine N.out.mono ?_;rintro e K ⟨rfl,L⟩;subst K;have M:wr.cell? ⟨p,0,none⟩=_:=c.out.cell 0 rfl;have d1:wr.cell? ⟨p,1,none⟩=_:=c.out.cell 1 rfl;have d2:wr.cell? ⟨p,2,none⟩=_:=c.out.cell 2 rfl;have d3:wr.cell? ⟨p,3,none⟩=_:=c.out.cell 3 rfl;dsimp only;go_upto_region 13 with fail;refine bg4 ?_
          first
            | (iterate 1 go_step
               refine bg6 rfl _ _ _ rfl w.heap.size (ItemL.mk k [] 0 0).cells rfl rfl 32 zeroI.cells c.out.2.2.1 item_size rfl (item_one _) ?_)
            | (iterate 2 go_step
               refine bg6 rfl _ _ _ rfl w.heap.size (ItemL.mk k [] 0 0).cells rfl rfl 32 zeroI.cells c.out.2.2.1 item_size rfl (item_one _) ?_)
            | (iterate 3 go_step
               refine bg6 rfl _ _ _ rfl w.heap.size (ItemL.mk k [] 0 0).cells rfl rfl 32 zeroI.cells c.out.2.2.1 item_size rfl (item_one _) ?_)
            | (iterate 4 go_step
               refine bg6 rfl _ _ _ rfl w.heap.size (ItemL.mk k [] 0 0).cells rfl rfl 32 zeroI.cells c.out.2.2.1 item_size rfl (item_one _) ?_)
            | (iterate 5 go_step
               refine bg6 rfl _ _ _ rfl w.heap.size (ItemL.mk k [] 0 0).cells rfl rfl 32 zeroI.cells c.out.2.2.1 item_size rfl (item_one _) ?_)
            | (iterate 6 go_step
               refine bg6 rfl _ _ _ rfl w.heap.size (ItemL.mk k [] 0 0).cells rfl rfl 32 zeroI.cells c.out.2.2.1 item_size rfl (item_one _) ?_)
          have o:=Lh (c.out.fin (ItemL.mk k [] 0 0).cells);obtain⟨j,l⟩:=Nm (wr.setRow w.heap.size (ItemL.mk k [] 0 0).cells);rw[<-l]at o ⊢;clear l;go_wp2_with fail;exact bodyPost_ret (v:=.agg (ItemL.mk k [] 0 0).cells) (results_cell_row rfl _ _ w.heap.size 32 (ItemL.mk k [] 0 0).cells (0,0) _ rfl o.out.1 underlying32 rfl item_size) rfl (J.out _ o.out.2.1 o.out.2.2)
        · have J:Hid (∀j,RdAt a j b s->w.grownBy j (some b)->P (.returned (.agg (zeroI).cells)) j):=by
            refine Lh (λj E F=>?_);rw[HP.out,y.out,if_neg (by rw[<-z];exact d)]
            exact⟨rfl,E,F⟩
          have e1:(q !=0)=true:=by simpa using d
          clear z d;go_wp2_with fail;refine N.out.mono ?_;rintro e K ⟨rfl,L⟩;subst K;dsimp only;go_upto_region 12 with fail;refine bg4 ?_
          first
            | (iterate 1 go_step
               refine bg6 rfl _ _ _ rfl w.heap.size (zeroI).cells rfl rfl 32 zeroI.cells c.out.2.2.1 item_size rfl (item_one _) ?_)
            | (iterate 2 go_step
               refine bg6 rfl _ _ _ rfl w.heap.size (zeroI).cells rfl rfl 32 zeroI.cells c.out.2.2.1 item_size rfl (item_one _) ?_)
            | (iterate 3 go_step
               refine bg6 rfl _ _ _ rfl w.heap.size (zeroI).cells rfl rfl 32 zeroI.cells c.out.2.2.1 item_size rfl (item_one _) ?_)
            | (iterate 4 go_step
               refine bg6 rfl _ _ _ rfl w.heap.size (zeroI).cells rfl rfl 32 zeroI.cells c.out.2.2.1 item_size rfl (item_one _) ?_)
            | (iterate 5 go_step
               refine bg6 rfl _ _ _ rfl w.heap.size (zeroI).cells rfl rfl 32 zeroI.cells c.out.2.2.1 item_size rfl (item_one _) ?_)
            | (iterate 6 go_step
               refine bg6 rfl _ _ _ rfl w.heap.size (zeroI).cells rfl rfl 32 zeroI.cells c.out.2.2.1 item_size rfl (item_one _) ?_)
          have o:=Lh (c.out.fin (zeroI).cells);obtain⟨j,l⟩:=Nm (wr.setRow w.heap.size (zeroI).cells);rw[<-l]at o ⊢;clear l;go_wp2_with fail;exact bodyPost_ret (v:=.agg (zeroI).cells) (results_cell_row rfl _ _ w.heap.size 32 (zeroI).cells (0,0) _ rfl o.out.1 underlying32 rfl item_size) rfl (J.out _ o.out.2.1 o.out.2.2)
      | false=>
        go_wp2_with fail;refine I.out.mono ?_;rintro e wr ⟨rfl,x⟩;have c:=Lh (S2.out.below x);clear x M d1 d2 d3;dsimp only;go_wp2_with fail;refine(rfail_any wr a b (t1) 11 c.out.1).mono ?_;rintro e wf ⟨rfl,O,Q⟩;have n:=Lh (c.out.rd O Q);clear O Q;dsimp only;obtain⟨s,u⟩:=Nm ((t1).fail 11);rw[<-u]at n;have y:=Lh (HQ.out s (by rw[u,TapeL.last,<-Hr.out];rfl))
        obtain⟨q,z⟩:=Nm (s.e);have N:Hid (Calls prog 74 #[.pointer (some ⟨b,0,none⟩)] wf λe w'=>e=.returned (.int .i64 q)/\w'=wf):=by
          rw[z];exact rerr_any wf a b s n.out.1
        clear u;by_cases d:q=0
        · have J:Hid (∀j,RdAt a j b s->w.grownBy j (some b)->P (.returned (.agg (ItemL.mk k [] 0 0).cells)) j):=by
            refine Lh (λj E F=>?_);rw[HP.out,y.out,if_pos (by rw[<-z];exact d)]
            exact⟨rfl,E,F⟩
          clear z;subst d;go_wp2_with fail;refine N.out.mono ?_;rintro e K ⟨rfl,L⟩;subst K;have M:wf.cell? ⟨p,0,none⟩=_:=n.out.cell 0 rfl;have d1:wf.cell? ⟨p,1,none⟩=_:=n.out.cell 1 rfl;have d2:wf.cell? ⟨p,2,none⟩=_:=n.out.cell 2 rfl;have d3:wf.cell? ⟨p,3,none⟩=_:=n.out.cell 3 rfl;dsimp only;go_upto_region 13 with fail;refine bg4 ?_
          first
            | (iterate 1 go_step
               refine bg6 rfl _ _ _ rfl w.heap.size (ItemL.mk k [] 0 0).cells rfl rfl 32 zeroI.cells n.out.2.2.1 item_size rfl (item_one _) ?_)
            | (iterate 2 go_step
               refine bg6 rfl _ _ _ rfl w.heap.size (ItemL.mk k [] 0 0).cells rfl rfl 32 zeroI.cells n.out.2.2.1 item_size rfl (item_one _) ?_)
            | (iterate 3 go_step
               refine bg6 rfl _ _ _ rfl w.heap.size (ItemL.mk k [] 0 0).cells rfl rfl 32 zeroI.cells n.out.2.2.1 item_size rfl (item_one _) ?_)
            | (iterate 4 go_step
               refine bg6 rfl _ _ _ rfl w.heap.size (ItemL.mk k [] 0 0).cells rfl rfl 32 zeroI.cells n.out.2.2.1 item_size rfl (item_one _) ?_)
            | (iterate 5 go_step
               refine bg6 rfl _ _ _ rfl w.heap.size (ItemL.mk k [] 0 0).cells rfl rfl 32 zeroI.cells n.out.2.2.1 item_size rfl (item_one _) ?_)
            | (iterate 6 go_step
               refine bg6 rfl _ _ _ rfl w.heap.size (ItemL.mk k [] 0 0).cells rfl rfl 32 zeroI.cells n.out.2.2.1 item_size rfl (item_one _) ?_)
          have o:=Lh (n.out.fin (ItemL.mk k [] 0 0).cells);obtain⟨j,l⟩:=Nm (wf.setRow w.heap.size (ItemL.mk k [] 0 0).cells);rw[<-l]at o ⊢;clear l;go_wp2_with fail;exact bodyPost_ret (v:=.agg (ItemL.mk k [] 0 0).cells) (results_cell_row rfl _ _ w.heap.size 32 (ItemL.mk k [] 0 0).cells (0,0) _ rfl o.out.1 underlying32 rfl item_size) rfl (J.out _ o.out.2.1 o.out.2.2)
        · have J:Hid (∀j,RdAt a j b s->w.grownBy j (some b)->P (.returned (.agg (zeroI).cells)) j):=by
            refine Lh (λj E F=>?_);rw[HP.out,y.out,if_neg (by rw[<-z];exact d)]
            exact⟨rfl,E,F⟩
          have e1:(q !=0)=true:=by simpa using d
          clear z d;go_wp2_with fail;refine N.out.mono ?_;rintro e K ⟨rfl,L⟩;subst K;dsimp only;go_upto_region 12 with fail;refine bg4 ?_
          first
            | (iterate 1 go_step
               refine bg6 rfl _ _ _ rfl w.heap.size (zeroI).cells rfl rfl 32 zeroI.cells n.out.2.2.1 item_size rfl (item_one _) ?_)
            | (iterate 2 go_step
               refine bg6 rfl _ _ _ rfl w.heap.size (zeroI).cells rfl rfl 32 zeroI.cells n.out.2.2.1 item_size rfl (item_one _) ?_)
            | (iterate 3 go_step
               refine bg6 rfl _ _ _ rfl w.heap.size (zeroI).cells rfl rfl 32 zeroI.cells n.out.2.2.1 item_size rfl (item_one _) ?_)
            | (iterate 4 go_step
               refine bg6 rfl _ _ _ rfl w.heap.size (zeroI).cells rfl rfl 32 zeroI.cells n.out.2.2.1 item_size rfl (item_one _) ?_)
            | (iterate 5 go_step
               refine bg6 rfl _ _ _ rfl w.heap.size (zeroI).cells rfl rfl 32 zeroI.cells n.out.2.2.1 item_size rfl (item_one _) ?_)
            | (iterate 6 go_step
               refine bg6 rfl _ _ _ rfl w.heap.size (zeroI).cells rfl rfl 32 zeroI.cells n.out.2.2.1 item_size rfl (item_one _) ?_)
          have o:=Lh (n.out.fin (zeroI).cells);obtain⟨j,l⟩:=Nm (wf.setRow w.heap.size (zeroI).cells);rw[<-l]at o ⊢;clear l;go_wp2_with fail;exact bodyPost_ret (v:=.agg (zeroI).cells) (results_cell_row rfl _ _ w.heap.size 32 (zeroI).cells (0,0) _ rfl o.out.1 underlying32 rfl item_size) rfl (J.out _ o.out.2.1 o.out.2.2)
theorem number_range(t:TapeL)(a:Int)(c:0<=a):0<=(t.number a).1/\(t.number a).1<=a:=by
 unfold TapeL.number
 split
 ·simp only;omega
 split
 ·simp only;omega
 rename_i d h;by_cases b:t.word.2.e=0
 ·simp only;omega
 have:=word_err b;simp only;omega
theorem take_next {α:Type} {l:List α} {t:Nat} {x:α}(h:l[t]? =some x):l.take (t+1)=l.take t++[x]:=by
 have a:t<l.length:=(List.getElem?_eq_some_iff.1 h).1;rw[List.take_succ_eq_append_getElem a];rw[bfs a]at h;simp only[bf5]at h;rw[h]
theorem ItemsAt.get {w:World} {a:Option Addr} {l:List ItemL}(h:ItemsAt w a l) {t:Nat}(c:t<l.length):∃x b o,l[t]? =some x/\a=some ⟨b,o,none⟩/\w.cell? ⟨b,o+t*4,none⟩=some (.int .i64 x.kind)/\w.cell? ⟨b,o+t*4+1,none⟩=some (Sv x.key)/\
  w.cell? ⟨b,o+t*4+2,none⟩=some (.int .i64 x.time)/\w.cell? ⟨b,o+t*4+3,none⟩=some (.int .i64 x.value):=by
 rcases h with h | ⟨b,o,h,d⟩
 ·rw[h]at c;simp at c
 exact⟨l[t],b,o,bfs c,h,d t _ (bfs c) 0 _ rfl,d t _ (bfs c) 1 _ rfl,d t _ (bfs c) 2 _ rfl,d t _ (bfs c) 3 _ rfl⟩
def wEvent:List (BitVec 8):=[101,118,101,110,116]
def wMark:List (BitVec 8):=[109,97,114,107]
def itemW(ws:List (List (BitVec 8))):ItemL:=
 match ws with
 | [a,b,c,d]=>if a=wEvent then ⟨1,b,numL c,numL d⟩else zeroI
 | [a,b]=>if a=wMark then ⟨2,[],numL b,0⟩else zeroI
 | _=>zeroI
def WordsAt(w:World)(g:Nat)(ws:List (List (BitVec 8))):Prop:=∀j x,ws[j]? =some x->w.cell? ⟨g,j,none⟩=some (Sv x)
def GI(w:World)(x:ItemL)(k:Nat)(w':World):Prop:=Bw w w'/\w'.heap[w.heap.size]? =some (.cells (if k=0 then zeroI else x).cells 32 (0,0))
theorem GI.far {w w' a:World} {x:ItemL} {k:Nat}(h:GI w x k w')(b:Bw w' a):GI w x k a:=⟨h.1.trans (b.mono h.1.size),(b.block _ (Array.getElem?_eq_some_iff.1 h.2).1).trans h.2⟩
theorem GI.set {w w':World} {x:ItemL}(h:GI w x 0 w'):GI w x 1 (w'.setRow w.heap.size x.cells):=
 ⟨h.1.trans ⟨rfl,rfl,rfl,by simp[World.setRow],λi a=>setRow_other _ _ _ _ (by omega)⟩,setRow_heap _ _ _ _ _ _ h.2⟩
theorem itemW_none(a:List (List (BitVec 8)))(b:¬(a[0]? =some wEvent/\a.length=4))(c:¬(a[0]? =some wMark/\a.length=2)):itemW a=zeroI:=by
 unfold itemW
 split
 ·rw[if_neg λe=>b ⟨by simp[e],rfl⟩]
 ·rw[if_neg λe=>c ⟨by simp[e],rfl⟩]
 rfl
theorem lL.below {w w':World}(h:lL w)(b:Bw w w'):lL w':=λg c=>by
 obtain⟨d,a,e⟩:=h g c;exact⟨d,(b.cell (block_lt_of_cell a)).trans a,e⟩
theorem Qi(w:World)(z I:Nat)(J:List (List (BitVec 8)))(O:J≠[])(Y:WordsAt w z J)(aa:∀x∈J,x.length<=1000000)(ab:lL w):
    Calls prog 166 #[.slice (some ⟨z,0,none⟩) J.length I] w (Below0 w (.agg (itemW J).cells)):=by
  obtain⟨M,y⟩:=Nm (w.alloc (.cells #[.int .i64 0,.string ⟨#[]⟩,.int .i64 0,.int .i64 0] 32));have l:Hid (∀x,GI w x 0 M):=by
    refine Lh (λx=>?_);rw[y];exact⟨(Below.refl _ w).alloc (bfx _) _,bg5 w _⟩
  have HE:Hid (∀o,Bw w o->lL o):=Lh (λo h=>ab.below h);have S:Hid (∀o,Bw w o->WordsAt o z J):=Lh (λo h j x hj=>(h.cell (block_lt_of_cell (Y j x hj))).trans (Y j x hj));have Q:=Lh aa;clear ab Y aa;by_cases U:J[0]? =some wEvent/\J.length=4
  · obtain⟨wa,p,wc,N,rfl⟩:∃a b c d,J=[a,b,c,d]:=by
      match J,U.2 with
      | [a,b,c,d],_=>exact⟨a,b,c,d,rfl⟩
    obtain rfl:wa=wEvent:=by simpa using U.1
    clear U O;rw[show itemW [wEvent,p,wc,N]=ItemL.mk 1 p (numL wc) (numL N) by rw[itemW,if_pos rfl]]
    have c0:M.cell? ⟨z,0,none⟩=some (Sv wEvent):=S.out M (l.out zeroI).1 0 _ rfl;have R:∀w,(binOp .eql 9 (Sv wEvent) (.string ⟨#[101,118,101,110,116]⟩)).run prog w=.ok (.bool true) w:=λw=>run_eql_Sv w wEvent wEvent;have ae:Hid (GI w (ItemL.mk 1 p (numL wc) (numL N)) 0 M.drew):=⟨(l.out zeroI).1.drew,(l.out zeroI).2⟩;rw[show([wEvent,p,wc,N]:List (List (BitVec 8))).length=4 from rfl];go_enter func166,ntmps166;go_upto_region 1 with fail;rw[<-y];clear y;go_upto_region 2 with fail;clear c0 R;refine wp_region_seq_frame (by kernel_rfl) (NoF (NoF [none,none,some 0])) [12] (vOfC [.slice (some ⟨z,0,none⟩) 4 I,.pointer (some ⟨z,1,none⟩),Sv p,.slice (some ⟨z,0,none⟩) 4 I,.pointer (some ⟨z,2,none⟩),Sv wc,.int .i64 (numL wc),.slice (some ⟨z,0,none⟩) 4 I,.pointer (some ⟨z,3,none⟩),Sv N,.int .i64 (numL N),.agg (ItemL.mk 1 p (numL wc) (numL N)).cells,undef]) (GI w (ItemL.mk 1 p (numL wc) (numL N))) (λ_ _=>True) (λ_ _ _ _ _ h=>h) (by kernel_rfl) (by kernel_rfl) (by kernel_rfl) ae.out ⟨trivial,trivial,trivial,trivial,trivial,trivial,trivial,trivial,trivial,trivial,trivial,trivial,trivial,trivial⟩ ?_ ?_
    · refine⟨?_,?_,?_,?_,?_,?_,?_,?_,?_,?_,?_,?_,?_,trivial⟩
      · intro k a o n s D K E;have q0:=Eo s 0 (.slice (some ⟨z,0,none⟩) 4 I);clear s D;go_step;exact E _ _ rfl n trivial
      · intro k a o n s D K E;obtain⟨u,_⟩:=D;have aj:=Ep a 13 (.slice (some ⟨z,0,none⟩) 4 I) u;clear s u;go_step;exact E _ _ rfl n trivial
      · intro k a o n s D K E;obtain⟨u,_⟩:=D;have ak:=Pa a 14 z 1 u;have hc:o.cell? ⟨z,1,none⟩=some (Sv p):=S.out o n.1 1 _ rfl;clear s u;go_step;exact E _ _ rfl n trivial
      · intro k a o n s D K E;have q0:=Eo s 0 (.slice (some ⟨z,0,none⟩) 4 I);clear s D;go_step;exact E _ _ rfl n trivial
      · intro k a o n s D K E;obtain⟨u,_⟩:=D;have al:=Ep a 16 (.slice (some ⟨z,0,none⟩) 4 I) u;clear s u;go_step;exact E _ _ rfl n trivial
      · intro k a o n s D K E;obtain⟨u,_⟩:=D;have am:=Pa a 17 z 2 u;have hc:o.cell? ⟨z,2,none⟩=some (Sv wc):=S.out o n.1 2 _ rfl;clear s u;go_step;exact E _ _ rfl n trivial
      · intro k a o n s D K E;obtain⟨u,_⟩:=D;have an:=Ep a 18 (Sv wc) u;have HS:=Lh (rM o wc (Q.out _ (by simp)) (HE.out o n.1))
        clear s u;go_step;refine HS.out.mono ?_;rintro e w3 ⟨rfl,hB⟩;exact E _ _ rfl (n.far hB) trivial
      · intro k a o n s D K E;have q0:=Eo s 0 (.slice (some ⟨z,0,none⟩) 4 I);clear s D;go_step;exact E _ _ rfl n trivial
      · intro k a o n s D K E;obtain⟨u,_⟩:=D;have ao:=Ep a 20 (.slice (some ⟨z,0,none⟩) 4 I) u;clear s u;go_step;exact E _ _ rfl n trivial
      · intro k a o n s D K E;obtain⟨u,_⟩:=D;have ap:=Pa a 21 z 3 u;have hc:o.cell? ⟨z,3,none⟩=some (Sv N):=S.out o n.1 3 _ rfl;clear s u;go_step;exact E _ _ rfl n trivial
      · intro k a o n s D K E;obtain⟨u,_⟩:=D;have ar:=Ep a 22 (Sv N) u;have HS:=Lh (rM o N (Q.out _ (by simp)) (HE.out o n.1))
        clear s u;go_step;refine HS.out.mono ?_;rintro e w3 ⟨rfl,hB⟩;exact E _ _ rfl (n.far hB) trivial
      · intro k a o n s D K E;obtain⟨u,p1,p2,_⟩:=D;have au:=Ep a 15 (Sv p) u;have av:=Ep a 19 (.int .i64 (numL wc)) p1;have aw:=Ep a 23 (.int .i64 (numL N)) p2;clear s u p1 p2;go_step;exact E _ _ rfl n trivial
      · intro a o n s D K E;obtain⟨u,_⟩:=D;have q2:=((s 2 rfl).trans (show _=.pointer (some ⟨w.heap.size,0,none⟩)from rfl));have af:=(show a.eval (.tmp 24)=.agg (ItemL.mk 1 p (numL wc) (numL N)).cells from u);refine wp_store_row 32 (.tmp 2) (.tmp 24) rfl w.heap.size (ItemL.mk 1 p (numL wc) (numL N)).cells q2 af 32 zeroI.cells n.2 item_size rfl (item_one1 _) ?_;exact E _ _ rfl n.set trivial
    · intro vs w2 n ac hV
      match vs,ac,hV with
      | [v0,v1,v2,v3,v4,v5,v6,v7,v8,v9,v10,v11,v12],_,hV=>
        clear hV;simp only[putsL,bf7,bf1];simp only[Act.put,bfw,bfu,bfv];have F:=Lh n;clear n;go_wp2_with fail;exact bodyPost_ret (v:=.agg (ItemL.mk 1 p (numL wc) (numL N)).cells) (results_cell_row rfl _ _ w.heap.size 32 (ItemL.mk 1 p (numL wc) (numL N)).cells (0,0) _ rfl F.out.2 underlying32 rfl item_size) rfl ⟨rfl,F.out.1⟩
  by_cases Z:J[0]? =some wMark/\J.length=2
  · obtain⟨wa,p,rfl⟩:∃a b,J=[a,b]:=by
      match J,Z.2 with
      | [a,b],_=>exact⟨a,b,rfl⟩
    obtain rfl:wa=wMark:=by simpa using Z.1
    clear U Z O;rw[show itemW [wMark,p]=ItemL.mk 2 [] (numL p) 0 by rw[itemW,if_pos rfl]]
    have c0:M.cell? ⟨z,0,none⟩=some (Sv wMark):=S.out M (l.out zeroI).1 0 _ rfl;have c1:M.cell? ⟨z,1,none⟩=some (Sv p):=S.out M (l.out zeroI).1 1 _ rfl;have R:∀w,(binOp .eql 9 (Sv wMark) (.string ⟨#[101,118,101,110,116]⟩)).run prog w=.ok (.bool false) w:=λw=>run_eql_Sv w wMark wEvent;have ad:∀w,(binOp .eql 9 (Sv wMark) (.string ⟨#[109,97,114,107]⟩)).run prog w=.ok (.bool true) w:=λw=>run_eql_Sv w wMark wMark;have HN:=Lh (rM M p (Q.out _ (by simp)) (HE.out M (l.out zeroI).1))
    rw[show([wMark,p]:List (List (BitVec 8))).length=2 from rfl];go_enter func166,ntmps166;go_upto_region 1 with fail;rw[<-y];clear y;go_wp2_with fail;refine HN.out.mono ?_;rintro e w3 ⟨rfl,hB⟩;have H3:=Lh ((l.out (ItemL.mk 2 [] (numL p) 0)).far hB);clear hB c0 c1 R ad;dsimp only
    first
      | (iterate 1 go_step
         refine bg6 rfl _ _ _ rfl w.heap.size (ItemL.mk 2 [] (numL p) 0).cells rfl rfl 32 zeroI.cells H3.out.2 item_size rfl (item_one1 _) ?_)
      | (iterate 2 go_step
         refine bg6 rfl _ _ _ rfl w.heap.size (ItemL.mk 2 [] (numL p) 0).cells rfl rfl 32 zeroI.cells H3.out.2 item_size rfl (item_one1 _) ?_)
      | (iterate 3 go_step
         refine bg6 rfl _ _ _ rfl w.heap.size (ItemL.mk 2 [] (numL p) 0).cells rfl rfl 32 zeroI.cells H3.out.2 item_size rfl (item_one1 _) ?_)
      | (iterate 4 go_step
         refine bg6 rfl _ _ _ rfl w.heap.size (ItemL.mk 2 [] (numL p) 0).cells rfl rfl 32 zeroI.cells H3.out.2 item_size rfl (item_one1 _) ?_)
      | (iterate 5 go_step
         refine bg6 rfl _ _ _ rfl w.heap.size (ItemL.mk 2 [] (numL p) 0).cells rfl rfl 32 zeroI.cells H3.out.2 item_size rfl (item_one1 _) ?_)
      | (iterate 6 go_step
         refine bg6 rfl _ _ _ rfl w.heap.size (ItemL.mk 2 [] (numL p) 0).cells rfl rfl 32 zeroI.cells H3.out.2 item_size rfl (item_one1 _) ?_)
    have F:=Lh (GI.set (x:=ItemL.mk 2 [] (numL p) 0) H3.out);obtain⟨wz,q⟩:=Nm (w3.setRow w.heap.size (ItemL.mk 2 [] (numL p) 0).cells);rw[<-q]at F ⊢;clear q;go_wp2_with fail;exact bodyPost_ret (v:=.agg (ItemL.mk 2 [] (numL p) 0).cells) (results_cell_row rfl _ _ w.heap.size 32 (ItemL.mk 2 [] (numL p) 0).cells (0,0) _ rfl F.out.2 underlying32 rfl item_size) rfl ⟨rfl,F.out.1⟩
  rw[itemW_none J U Z];obtain⟨a,ag,rfl⟩:∃a r,J=a::r:=by
    cases J with
    | nil=>exact absurd rfl O
    | cons a r=>exact⟨a,r,rfl⟩
  have c0:M.cell? ⟨z,0,none⟩=some (Sv a):=S.out M (l.out zeroI).1 0 _ rfl;obtain⟨L,hL⟩:=Nm ((a::ag).length);rw[<-hL]at U Z ⊢;have ah:0<L:=by rw[hL];simp
  obtain⟨e,he⟩:=Nm (decide (a=wEvent));obtain⟨m,hm⟩:=Nm (decide (a=wMark));have R:∀w,(binOp .eql 9 (Sv a) (.string ⟨#[101,118,101,110,116]⟩)).run prog w=.ok (.bool e) w:=λw=>by rw[he];exact run_eql_Sv w a wEvent
  have ad:∀w,(binOp .eql 9 (Sv a) (.string ⟨#[109,97,114,107]⟩)).run prog w=.ok (.bool m) w:=λw=>by rw[hm];exact run_eql_Sv w a wMark
  have h4:e=true->((L:Int)==4)=false:=λh=>by
    rw[he,bf0]at h;have:L≠4:=λh'=>U ⟨by simp[h],h'⟩
    simp;omega
  have h2:m=true->((L:Int)==2)=false:=λh=>by
    rw[hm,bf0]at h;have:L≠2:=λh'=>Z ⟨by simp[h],h'⟩
    simp;omega
  have HH:=Lh ah;clear U Z O he hm hL S Q HE
  cases e with
  | true=>
    have ax:=h4 rfl;clear h4
    cases m with
    | true=>
      have ai:=h2 rfl;clear h2;go_enter func166,ntmps166;go_upto_region 1 with fail;rw[<-y];clear y;go_upto_region 5 with fail;refine bg4 ?_
      first
        | (iterate 1 go_step
           refine bg6 rfl _ _ _ rfl w.heap.size (zeroI).cells rfl rfl 32 zeroI.cells (l.out zeroI).2 item_size rfl (item_one1 _) ?_)
        | (iterate 2 go_step
           refine bg6 rfl _ _ _ rfl w.heap.size (zeroI).cells rfl rfl 32 zeroI.cells (l.out zeroI).2 item_size rfl (item_one1 _) ?_)
        | (iterate 3 go_step
           refine bg6 rfl _ _ _ rfl w.heap.size (zeroI).cells rfl rfl 32 zeroI.cells (l.out zeroI).2 item_size rfl (item_one1 _) ?_)
        | (iterate 4 go_step
           refine bg6 rfl _ _ _ rfl w.heap.size (zeroI).cells rfl rfl 32 zeroI.cells (l.out zeroI).2 item_size rfl (item_one1 _) ?_)
        | (iterate 5 go_step
           refine bg6 rfl _ _ _ rfl w.heap.size (zeroI).cells rfl rfl 32 zeroI.cells (l.out zeroI).2 item_size rfl (item_one1 _) ?_)
        | (iterate 6 go_step
           refine bg6 rfl _ _ _ rfl w.heap.size (zeroI).cells rfl rfl 32 zeroI.cells (l.out zeroI).2 item_size rfl (item_one1 _) ?_)
      have F:=Lh (GI.set (x:=zeroI) (l.out zeroI));obtain⟨wz,q⟩:=Nm (M.setRow w.heap.size (zeroI).cells);rw[<-q]at F ⊢;clear q;go_wp2_with fail;exact bodyPost_ret (v:=.agg (zeroI).cells) (results_cell_row rfl _ _ w.heap.size 32 (zeroI).cells (0,0) _ rfl F.out.2 underlying32 rfl item_size) rfl ⟨rfl,F.out.1⟩
    | false=>
      clear h2;go_enter func166,ntmps166;go_upto_region 1 with fail;rw[<-y];clear y;go_upto_region 5 with fail;refine bg4 ?_
      first
        | (iterate 1 go_step
           refine bg6 rfl _ _ _ rfl w.heap.size (zeroI).cells rfl rfl 32 zeroI.cells (l.out zeroI).2 item_size rfl (item_one1 _) ?_)
        | (iterate 2 go_step
           refine bg6 rfl _ _ _ rfl w.heap.size (zeroI).cells rfl rfl 32 zeroI.cells (l.out zeroI).2 item_size rfl (item_one1 _) ?_)
        | (iterate 3 go_step
           refine bg6 rfl _ _ _ rfl w.heap.size (zeroI).cells rfl rfl 32 zeroI.cells (l.out zeroI).2 item_size rfl (item_one1 _) ?_)
        | (iterate 4 go_step
           refine bg6 rfl _ _ _ rfl w.heap.size (zeroI).cells rfl rfl 32 zeroI.cells (l.out zeroI).2 item_size rfl (item_one1 _) ?_)
        | (iterate 5 go_step
           refine bg6 rfl _ _ _ rfl w.heap.size (zeroI).cells rfl rfl 32 zeroI.cells (l.out zeroI).2 item_size rfl (item_one1 _) ?_)
        | (iterate 6 go_step
           refine bg6 rfl _ _ _ rfl w.heap.size (zeroI).cells rfl rfl 32 zeroI.cells (l.out zeroI).2 item_size rfl (item_one1 _) ?_)
      have F:=Lh (GI.set (x:=zeroI) (l.out zeroI));obtain⟨wz,q⟩:=Nm (M.setRow w.heap.size (zeroI).cells);rw[<-q]at F ⊢;clear q;go_wp2_with fail;exact bodyPost_ret (v:=.agg (zeroI).cells) (results_cell_row rfl _ _ w.heap.size 32 (zeroI).cells (0,0) _ rfl F.out.2 underlying32 rfl item_size) rfl ⟨rfl,F.out.1⟩
  | false=>
    clear h4
    cases m with
    | true=>
      have ai:=h2 rfl;clear h2;go_enter func166,ntmps166;go_upto_region 1 with fail;rw[<-y];clear y;go_upto_region 5 with fail;refine bg4 ?_
      first
        | (iterate 1 go_step
           refine bg6 rfl _ _ _ rfl w.heap.size (zeroI).cells rfl rfl 32 zeroI.cells (l.out zeroI).2 item_size rfl (item_one1 _) ?_)
        | (iterate 2 go_step
           refine bg6 rfl _ _ _ rfl w.heap.size (zeroI).cells rfl rfl 32 zeroI.cells (l.out zeroI).2 item_size rfl (item_one1 _) ?_)
        | (iterate 3 go_step
           refine bg6 rfl _ _ _ rfl w.heap.size (zeroI).cells rfl rfl 32 zeroI.cells (l.out zeroI).2 item_size rfl (item_one1 _) ?_)
        | (iterate 4 go_step
           refine bg6 rfl _ _ _ rfl w.heap.size (zeroI).cells rfl rfl 32 zeroI.cells (l.out zeroI).2 item_size rfl (item_one1 _) ?_)
        | (iterate 5 go_step
           refine bg6 rfl _ _ _ rfl w.heap.size (zeroI).cells rfl rfl 32 zeroI.cells (l.out zeroI).2 item_size rfl (item_one1 _) ?_)
        | (iterate 6 go_step
           refine bg6 rfl _ _ _ rfl w.heap.size (zeroI).cells rfl rfl 32 zeroI.cells (l.out zeroI).2 item_size rfl (item_one1 _) ?_)
      have F:=Lh (GI.set (x:=zeroI) (l.out zeroI));obtain⟨wz,q⟩:=Nm (M.setRow w.heap.size (zeroI).cells);rw[<-q]at F ⊢;clear q;go_wp2_with fail;exact bodyPost_ret (v:=.agg (zeroI).cells) (results_cell_row rfl _ _ w.heap.size 32 (zeroI).cells (0,0) _ rfl F.out.2 underlying32 rfl item_size) rfl ⟨rfl,F.out.1⟩
    | false=>
      clear h2;go_enter func166,ntmps166;go_upto_region 1 with fail;rw[<-y];clear y;go_upto_region 5 with fail;refine bg4 ?_
      first
        | (iterate 1 go_step
           refine bg6 rfl _ _ _ rfl w.heap.size (zeroI).cells rfl rfl 32 zeroI.cells (l.out zeroI).2 item_size rfl (item_one1 _) ?_)
        | (iterate 2 go_step
           refine bg6 rfl _ _ _ rfl w.heap.size (zeroI).cells rfl rfl 32 zeroI.cells (l.out zeroI).2 item_size rfl (item_one1 _) ?_)
        | (iterate 3 go_step
           refine bg6 rfl _ _ _ rfl w.heap.size (zeroI).cells rfl rfl 32 zeroI.cells (l.out zeroI).2 item_size rfl (item_one1 _) ?_)
        | (iterate 4 go_step
           refine bg6 rfl _ _ _ rfl w.heap.size (zeroI).cells rfl rfl 32 zeroI.cells (l.out zeroI).2 item_size rfl (item_one1 _) ?_)
        | (iterate 5 go_step
           refine bg6 rfl _ _ _ rfl w.heap.size (zeroI).cells rfl rfl 32 zeroI.cells (l.out zeroI).2 item_size rfl (item_one1 _) ?_)
        | (iterate 6 go_step
           refine bg6 rfl _ _ _ rfl w.heap.size (zeroI).cells rfl rfl 32 zeroI.cells (l.out zeroI).2 item_size rfl (item_one1 _) ?_)
      have F:=Lh (GI.set (x:=zeroI) (l.out zeroI));obtain⟨wz,q⟩:=Nm (M.setRow w.heap.size (zeroI).cells);rw[<-q]at F ⊢;clear q;go_wp2_with fail;exact bodyPost_ret (v:=.agg (zeroI).cells) (results_cell_row rfl _ _ w.heap.size 32 (zeroI).cells (0,0) _ rfl F.out.2 underlying32 rfl item_size) rfl ⟨rfl,F.out.1⟩
theorem lvB_bvL(l:List UInt8):lvB (bvL l)=l:=by
 unfold lvB bvL;rw[List.map_map];have:((λc:BitVec 8=>UInt8.ofNat c.toNat) ∘ λc:UInt8=>BitVec.ofNat 8 c.toNat)=id:=by
  funext c
  have:=c.toNat_lt;simp
 rw[this,List.map_id]
theorem bvL_lvB(l:List (BitVec 8)):bvL (lvB l)=l:=by
 unfold lvB bvL;rw[List.map_map];have:((λc:UInt8=>BitVec.ofNat 8 c.toNat) ∘ λc:BitVec 8=>UInt8.ofNat c.toNat)=id:=by
  funext c
  have:=c.isLt;apply BitVec.eq_of_toNat_eq;simp
 rw[this,List.map_id]
theorem lvB_append(a b:List (BitVec 8)):lvB (a++b)=lvB a++lvB b:=by simp[lvB]
theorem lvB_length(a:List (BitVec 8)):(lvB a).length=a.length:=by simp[lvB]
def noBlank(l:List UInt8):Prop:=∀c∈l,c≠32
theorem occ_one(s:List UInt8)(i:Nat):Lib.occAt s [32] i=true↔s[i]? =some 32:=by
 unfold Lib.occAt;constructor
 ·intro h;exact Lib.occAt_head (s:=s) (t:=[]) rfl h
 intro h;have a:i<s.length:=(List.getElem?_eq_some_iff.1 h).1;rw[List.drop_eq_getElem_cons a];rw[bfs a]at h;simp only[bf5]at h;simp[List.isPrefixOf,h]
theorem index_text(a r:List UInt8)(h:noBlank a):Lib.index (a++32::r) [32]=(a.length:Int):=by
 refine Lib.index_first (by simp) ((occ_one _ _).2 (by simp)) λj c=>?_
 rw[Bool.eq_false_iff];intro b;rw[occ_one,List.getElem?_append_left c]at b;exact h _ (bf3 b) rfl
theorem index_blank(a:List UInt8)(h:noBlank a):Lib.index a [32]=-1:=by
 refine Lib.index_none λj _=>?_;rw[Bool.eq_false_iff];intro b;rw[occ_one]at b;exact h _ (bf3 b) rfl
theorem splitK_ne(k:Nat)(a:List UInt8):Lib.splitK [32] 0 k a≠[]:=by
 cases k with
 | zero=>simp[Lib.splitK]
 | succ k=>rw[Lib.splitK];split <;> simp
theorem splitK_len:∀(k:Nat) (a:List UInt8),∀x∈Lib.splitK [32] 0 k a,x.length<=a.length
 | 0,a,x,h=>by simp[Lib.splitK]at h;rw[h];exact bfx _
 | k+1,a,x,h=>by
  rw[Lib.splitK]at h
  split at h
  ·simp at h;rw[h];exact bfx _
  rcases List.mem_cons.1 h with h | h
  ·rw[h];simp only[bga];omega
  have:=splitK_len k _ x h;simp only[bgx]at this;omega
def wordsOf(s:List (BitVec 8)):List (List (BitVec 8)):=(Lib.splitK [32] 0 (min 5 (s.length+1)-1) (lvB s)).map bvL
theorem wordsOf_ne(s:List (BitVec 8)):wordsOf s≠[]:=by
 unfold wordsOf;intro h;exact splitK_ne _ _ (List.map_eq_nil_iff.1 h)
theorem wordsOf_len(s:List (BitVec 8)):∀x∈wordsOf s,x.length<=s.length:=by
 intro x a;obtain⟨y,b,rfl⟩:=List.mem_map.1 a;rw[bvL_length,<-lvB_length s];exact splitK_len _ _ y b
theorem itoa_noBlank(n:Int):noBlank (Lib.itoa n):=by
 intro c a;have key:∀u,∀c∈Lib.decDigits u,c≠32:=λu c a=>by
  have:=digits_bytes u c a;rintro rfl
  revert this
  decide
 unfold Lib.itoa at a
 split at a
 ·rcases List.mem_cons.1 a with rfl | a
  ·decide
  exact key _ c a
 exact key _ c a
theorem name_noBlank {s:List (BitVec 8)}(h:nameB s=true):noBlank (lvB s):=by
 intro c b;unfold lvB at b;obtain⟨x,a,rfl⟩:=List.mem_map.1 b;simp only[nameB,bf8,bgt]at h;have d:=h.1 x a;simp only[nameC,bf0]at d;intro e;have:(UInt8.ofNat x.toNat).toNat=32:=by rw[e];rfl
 have a:=x.isLt;have j:(UInt8.ofNat x.toNat).toNat=x.toNat:=by
  rw[UInt8.toNat_ofNat'];exact Nat.mod_eq_of_lt a
 omega
def parseL(s:List (BitVec 8)):ItemL × Bool:=if (itemW (wordsOf s)).rightB=true/\(itemW (wordsOf s)).text=s then (itemW (wordsOf s),true)else (zeroI,false)
def splitStep(p:List (List (BitVec 8)) × List (BitVec 8))(c:BitVec 8):List (List (BitVec 8)) × List (BitVec 8):=if c=32 then (p.1++[p.2],[])else (p.1,p.2++[c])
def splitS(s:List (BitVec 8)):List (List (BitVec 8)) × List (BitVec 8):=s.foldl splitStep ([],[])
def splitL(s:List (BitVec 8)):List (List (BitVec 8)):=(splitS s).1++[(splitS s).2]
theorem splitS_next {s:List (BitVec 8)} {k:Nat} {c:BitVec 8}(h:s[k]? =some c):splitS (s.take (k+1))=splitStep (splitS (s.take k)) c:=by
 have a:k<s.length:=(List.getElem?_eq_some_iff.1 h).1;have e:s.take (k+1)=s.take k++[c]:=by
  rw[List.take_succ_eq_append_getElem a];rw[bfs a]at h;simp only[bf5]at h;rw[h]
 rw[e,splitS,splitS,List.foldl_append];rfl
def joinL:List (List (BitVec 8))->List (BitVec 8)
 | []=>[]
 | [a]=>a
 | a::b::r=>a++bBlank++joinL (b::r)
theorem joinL_snoc:∀(o:List (List (BitVec 8))) (w:List (BitVec 8)) (x:List (BitVec 8)),joinL (o++[w++x])=joinL (o++[w])++x
 | [],w,x=>rfl
 | [a],w,x=>by simp[joinL]
 | a::b::r,w,x=>by
  have c:=joinL_snoc (b::r) w x;simp only[List.cons_append,joinL]at c ⊢;rw[c];simp
theorem joinL_push:∀(o:List (List (BitVec 8))) (w:List (BitVec 8)),joinL (o++[w]++[[]])=joinL (o++[w])++bBlank
 | [],w=>by simp[joinL]
 | [a],w=>by simp[joinL]
 | a::b::r,w=>by
  have c:=joinL_push (b::r) w;simp only[List.cons_append,joinL]at c ⊢;rw[c];simp
theorem join_split(s:List (BitVec 8)):joinL (splitL s)=s:=by
 have key:∀k,k<=s.length->joinL ((splitS (s.take k)).1++[(splitS (s.take k)).2])=s.take k:=by
  intro k
  induction k with
  | zero=>intro _;rfl
  | succ k ih=>
   intro c;have b:s[k]? =some s[k]:=bfs (by omega)
   have e:s.take (k+1)=s.take k++[s[k]]:=List.take_succ_eq_append_getElem (by omega)
   rw[splitS_next b,splitStep]
   split
   ·rename_i a;rw[joinL_push,ih (by omega),e,a]
    rfl
   rw[joinL_snoc,ih (by omega),e]
 have:=key s.length (bfx _);rw[bgs]at this;exact this
theorem splitS_word(o:List (List (BitVec 8)))(a w:List (BitVec 8))(h:∀c∈a,c≠32):a.foldl splitStep (o,w)=(o,w++a):=by
 induction a generalizing w with
 | nil=>simp
 | cons c a ih=>
  rw[List.foldl_cons,splitStep,if_neg (h c (by simp)),ih _ λd b=>h d (by simp[b])]
  simp
theorem splitL_two(a b:List (BitVec 8))(d:∀c∈a,c≠32)(h:∀c∈b,c≠32):splitL (a++bBlank++b)=[a,b]:=by
 have e:splitS (a++bBlank++b)=([a],b):=by
  rw[splitS,List.foldl_append,List.foldl_append,splitS_word [] a [] d,bBlank,List.foldl_cons,List.foldl_nil,splitStep,if_pos rfl,splitS_word _ b [] h];simp
 rw[splitL,e];rfl
def digitC(c:BitVec 8):Bool:=decide (48<=c.toNat/\c.toNat<=57)
def valL(l:List (BitVec 8)):Nat:=l.foldl (λa c=>10*a+(c.toNat-48)) 0
def plainN(l:List (BitVec 8)):Bool:=!(decide (l=[]) || (decide (18<l.length) || (decide (l.head? =some 48) && !decide (l=[48])))) && l.all digitC
def negN(l:List (BitVec 8)):Bool:=decide (1<l.length/\l.head? =some 45)
def refNum(l:List (BitVec 8)):Int × Bool:=
 if negN l=true then (if l.tail=[48]then (0,false)else if plainN l.tail=true then (-(valL l.tail:Int),true)else (0,false))
 else if plainN l=true then ((valL l:Int),true)else (0,false)
theorem valL_snoc(l:List (BitVec 8))(c:BitVec 8):valL (l++[c])=10*valL l+(c.toNat-48):=by rw[valL,valL,List.foldl_append];rfl
theorem bv_digit(c:BitVec 8)(h:digitC c=true):BitVec.ofNat 8 (UInt8.ofNat (48+(c.toNat-48))).toNat=c:=by
 simp only[digitC,bf0]at h;have:(UInt8.ofNat (48+(c.toNat-48))).toNat=c.toNat:=by
  rw[UInt8.toNat_ofNat'];have:=c.isLt;rw[Nat.mod_eq_of_lt (by omega)]
  omega
 rw[this];simp
theorem digits_val:∀(n:Nat) (l:List (BitVec 8)),l.length=n->0<n->l.all digitC=true->(l.head? =some 48->l=[48])->bvL (Lib.decDigits (valL l))=l/\(l≠[48]->0<valL l):=by
 intro n
 induction n with
 | zero=>intro l _ h;omega
 | succ n ih=>
  intro l o _ p z;have d:l≠[]:=by intro e;rw[e]at o;simp at o
  obtain⟨a,c,rfl⟩:∃a c,l=a++[c]:=⟨l.dropLast,l.getLast d,(List.dropLast_concat_getLast d).symm⟩;rw[List.all_append,bf8]at p;have q:digitC c=true:=by simpa using p.2
  have s:=q;simp only[digitC,bf0]at s;rw[valL_snoc];by_cases m:a=[]
  ·subst m;have D:10*valL []+(c.toNat-48)=c.toNat-48:=by simp[valL]
   rw[D,Lib.decDigits,dif_pos (by omega)]
   refine⟨?_,λE=>?_⟩
   ·simp only[bvL,bgc,bge,List.nil_append];rw[bv_digit c q]
   have:c.toNat≠48:=λe=>E (by
    have:c=48:=BitVec.eq_of_toNat_eq (by rw[e];rfl)
    rw[this]
    rfl)
   omega
  have u:a.length=n:=by simp at o;omega
  have b:a.head? =(a++[c]).head? :=by
   cases a with
   | nil=>exact absurd rfl m
   | cons x r=>rfl
  have j:a.head?≠some 48:=λe=>by
   have:=z (by rw[<-b];exact e)
   have k:(a++[c]).length=1:=by rw[this];rfl
   have J:0<a.length:=List.length_pos_iff.2 m;rw[bft,bg0]at k;omega
  obtain⟨F,I⟩:=ih a u (by have:=List.length_pos_iff.2 m;omega) p.1 (λe=>absurd e j)
  have y:0<valL a:=I (λe=>j (by rw[e];rfl))
  refine⟨?_,λ_=>by omega⟩
  rw[Lib.decDigits,dif_neg (by omega),bvL_append,show(10*valL a+(c.toNat-48)) / 10=valL a by omega,show(10*valL a+(c.toNat-48)) % 10=c.toNat-48 by omega,F]
  congr 1
  simp only[bvL,bgc,bge];rw[bv_digit c q]
theorem plainN_spec {l:List (BitVec 8)}(h:plainN l=true):l≠[]/\l.length<=18/\(l.head? =some 48->l=[48])/\l.all digitC=true:=by
 simp only[plainN,bf8,Bool.not_eq_true',Bool.or_eq_false_iff,Bool.and_eq_false_iff,decide_eq_false_iff_not,Bool.not_eq_false',bf0]at h;refine⟨h.1.1,by omega,λe=>?_,h.2⟩
 rcases h.1.2.2 with a | a
 ·exact absurd e a
 exact a
theorem refNum_sound {l:List (BitVec 8)} {n:Int}(h:refNum l=(n,true)):l=itoaL n:=by
 unfold refNum at h
 split at h
 ·rename_i a;simp only[negN,bf0]at a;obtain⟨d,rfl⟩:∃d,l=45::d:=by
   cases l with
   | nil=>simp at a
   | cons c r=>
    have:c=45:=by simpa using a.2
    exact⟨r,by rw[this]⟩
  split at h
  ·simp at h
  rename_i b
  split at h
  ·rename_i k;obtain⟨j,p2,p3,p4⟩:=plainN_spec k;simp only[bf7]at j p2 p3 p4 b h;obtain⟨m,p⟩:=digits_val _ d rfl (List.length_pos_iff.2 j) p4 p3;have o:=p b;simp only[Prod.mk.injEq,and_true]at h;rw[<-h,itoaL_bv,Lib.itoa,if_pos (by omega)]
   have e:(-(valL d:Int)).natAbs=valL d:=by omega
   rw[e];show 45::d=bvL (45::Lib.decDigits (valL d));rw[show bvL (45::Lib.decDigits (valL d))=45::bvL (Lib.decDigits (valL d))from rfl,m]
  simp at h
 split at h
 ·rename_i k;obtain⟨j,p2,p3,p4⟩:=plainN_spec k;obtain⟨m,_⟩:=digits_val _ l rfl (List.length_pos_iff.2 j) p4 p3;simp only[Prod.mk.injEq,and_true]at h;rw[<-h,itoaL_bv,Lib.itoa,if_neg (by omega)]
  simp only[Int.toNat_natCast];exact m.symm
 simp at h
theorem digits_plain(u:Nat)(k:u<10 ^ 18):plainN (bvL (Lib.decDigits u))=true/\valL (bvL (Lib.decDigits u))=u:=by
 obtain⟨m,n,z,o⟩:=decDigits_val u;have D:=digits_len 17 u k;have b:(bvL (Lib.decDigits u)).all digitC=true:=by
  rw[bgt];intro c h;obtain⟨x,p,rfl⟩:=List.mem_map.1 h;have:=n x p;have q:=x.toNat_lt;simp only[digitC,bf0,BitVec.toNat_ofNat];omega
 have d:valL (bvL (Lib.decDigits u))=u:=by
  rw[valL,bvL,List.foldl_map];have e:∀(l:List UInt8) (a:Nat),l.foldl (λa c=>10*a+((BitVec.ofNat 8 c.toNat).toNat-48)) a=l.foldl (λa c=>10*a+(c.toNat-48)) a:=by
   intro l
   induction l with
   | nil=>intro a;rfl
   | cons c l ih=>
    intro a;have:=c.toNat_lt;rw[List.foldl_cons,List.foldl_cons,ih]
    congr 2
    simp
  rw[e];exact m
 refine⟨?_,d⟩;simp only[plainN,bf8,b,and_true,Bool.not_eq_true',Bool.or_eq_false_iff,Bool.and_eq_false_iff,decide_eq_false_iff_not,Bool.not_eq_false',bf0];refine⟨λe=>?_,by rw[bvL_length];omega,?_⟩
 ·have:(bvL (Lib.decDigits u)).length=0:=by rw[e];rfl
  rw[bvL_length]at this;omega
 by_cases j:10<=u
 ·left
  obtain⟨c,r,h,E⟩:=o j;rw[h];intro e;simp only[bvL,bgc,List.head?_cons,bf5]at e;have:=congrArg BitVec.toNat e;have s:=c.toNat_lt;simp at this;omega
 by_cases y:u=0
 ·right
  rw[y,Lib.decDigits,dif_pos (by omega)]
  rfl
 left
 rw[Lib.decDigits,dif_pos (by omega)]
 intro e;simp only[bvL,bgc,List.head?_cons,bf5]at e;have:=congrArg BitVec.toNat e;rw[UInt8.toNat_ofNat']at this;simp at this;omega
theorem noBlank_bv {l:List (BitVec 8)}(h:noBlank (lvB l)):∀c∈l,c≠32:=by
 intro c a e;exact h (UInt8.ofNat c.toNat) (List.mem_map.2 ⟨c,a,rfl⟩) (by rw[e];rfl)
theorem itoaL_noBlank(n:Int):∀c∈itoaL n,c≠32:=noBlank_bv (by rw[itoaL_bv,lvB_bvL];exact itoa_noBlank n)
structure bu where
 kind:Int
 size:Int
 slide:Int
 late:Int
 agg:Int
 k:Int
deriving DecidableEq
def bu.cells(q:bu):Array Value:=#[.int .i64 q.kind,.int .i64 q.size,.int .i64 q.slide,.int .i64 q.late,.int .i64 q.agg,.int .i64 q.k]
def bu.RF(q:bu):Bool:=
 decide (1<=q.size/\q.size<=1073741824) && if q.kind=2 then decide (1<=q.slide/\q.slide<=q.size/\q.size<=16*q.slide)else decide ((q.kind=1∨q.kind=3)/\q.slide=0)
def bu.KH(q:bu):Bool:=if q.agg=6 then decide (1<=q.k/\q.k<=8)else decide (1<=q.agg/\q.agg<=7/\q.k=0)
def bu.rightB(q:bu):Bool:=q.RF && decide (0<=q.late/\q.late<=1073741824) && q.KH
theorem kX {q:bu}(h:q.rightB=true):
  (1<=q.size/\q.size<=1073741824)/\(0<=q.late/\q.late<=1073741824)/\(q.kind=1∨q.kind=2∨q.kind=3)/\(q.kind=2->1<=q.slide/\q.slide<=q.size/\q.size<=16*q.slide)/\(q.kind≠2->q.slide=0)/\
  (1<=q.agg/\q.agg<=7)/\(q.agg=6->1<=q.k/\q.k<=8)/\(q.agg≠6->q.k=0):=by
 simp only[bu.rightB,bu.RF,bu.KH,bf8,bf0]at h;obtain⟨⟨⟨c,a⟩,d⟩,b⟩:=h;refine⟨c,d,?_⟩
 split at a <;> split at b <;> simp only[bf0]at a b <;> refine⟨?_,?_,?_,?_,?_,?_⟩ <;> omega
theorem DT {q:bu}(h:q.rightB=true):0<=q.kind/\q.kind<=3/\0<=q.size/\q.size<=1073741824/\0<=q.slide/\q.slide<=1073741824/\0<=q.late/\q.late<=1073741824/\0<=q.agg/\q.agg<=7/\0<=q.k/\q.k<=8:=by
 obtain⟨l,m,n,c,d,o,e,j⟩:=kX h;by_cases a:q.kind=2 <;> by_cases b:q.agg=6
 ·have:=c a;have:=e b;omega
 ·have:=c a;have:=j b;omega
 ·have:=d a;have:=e b;omega
 have:=d a;have:=j b;omega
end Go.Proofs.YtgfmbkoieacgoaaGreatDoor
