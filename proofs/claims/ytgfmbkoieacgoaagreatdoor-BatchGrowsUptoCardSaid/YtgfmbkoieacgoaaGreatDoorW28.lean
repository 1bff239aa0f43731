/- 28. -/
import Derived.Test.YtgfmbkoieacgoaaGreatDoorW14
import Derived.Test.YtgfmbkoieacgoaaGreatDoorW18
import Derived.Test.YtgfmbkoieacgoaaGreatDoorW27
set_option maxRecDepth 100000
set_option maxHeartbeats 2000000
namespace Go.Proofs.YtgfmbkoieacgoaaGreatDoor
open Go Go.RowKit Go.Proofs.Tryz
def zN(x:bH):Prop:=∀n∈x.o.v,-9223372036854775808<=n/\n<=9223372036854775807
theorem dE.right_cases {o:dE}(h:o.rightB=true):(o.late=true/\o.item.rightB=true/\o.r=0/\o.v=[])∨(o.late=false/\o.w.rightB=true/\1<=o.r/\o.r<=1073741824/\1<=o.v.length/\o.v.length<=8):=by
 unfold dE.rightB at h
 split at h
 ·rename_i a;simp only[bf8,bf0]at h;exact .inl ⟨a,h.1,h.2.2.1,bg3 h.2.2.2⟩
 rename_i a;simp only[bf8,bf0]at h;exact .inr ⟨by simpa using a,h.2.1,h.2.2.1,h.2.2.2.1,h.2.2.2.2.1,h.2.2.2.2.2⟩
theorem jO(n:Int)(h: -9223372036854775808<=n/\n<=9223372036854775807):(itoaL n).length<=21:=itoaL_length n (by omega)
theorem xQ {x:bf}(h:x.rightB=true):x.told.length<=80:=by
 obtain⟨key,a,b⟩:=x;obtain⟨_,_,c,d,e,j,k⟩:=bU h;simp only at c d e j k;unfold bf.told;rw[if_pos h];have l:=jO a (by omega)
 have m:=jO b (by omega)
 simp only[bf.text,bft];have n:bBlank.length=1:=rfl;have o:kC.length=2:=rfl;omega
theorem zx {x:ItemL}(h:x.rightB=true):x.told.length<=80:=by
 obtain⟨d,key,b,a⟩:=x;obtain⟨l,c⟩:=right_cases h;unfold ItemL.told;rw[if_pos h];simp only[ItemL.text];have m:=jO b (by omega)
 have n:bBlank.length=1:=rfl;have o:bMark.length=5:=rfl;have p:bEvent.length=6:=rfl;rcases c with⟨e,j,k⟩ | ⟨e,_,_,j,k⟩
 ·rw[if_pos e];simp only[bft];omega
 rw[if_neg (by omega)]
 have q:=jO a (by omega)
 simp only[bft];omega
theorem JH(v:List Int)(h:∀n∈v,-9223372036854775808<=n/\n<=9223372036854775807):(numsL v).length<=22*v.length:=by
 induction v with
 | nil=>simp[numsL]
 | cons x v ih=>
  have c:=jO x (h x (by simp))
  have a:=ih λn b=>h n (by simp[b])
  have d:bBlank.length=1:=rfl;simp only[numsL,List.flatMap_cons,bft,bgy]at a ⊢;omega
theorem yf(w:World)(x:bH)(hG:dL w x)(hF:PI x)(hN:zN x)(hI:lC w):Calls prog 24 #[.agg x.cells] w (Below0 w (Sv x.o.told)):=by
 have mixed:prog.follows .mixedOrders=true:=by kernel_rfl
 have hR:=λ(l:World) (hB:Bw w l)=>mZ l x (dL.below hG hB) hF;obtain⟨T,hT⟩:=Nm (x.o.told);rw[<-hT];have eX:x.o.rightB=false->T=[]:=λh=>by rw[hT];unfold dE.told;rw[h];rfl
 have ac:x.o.rightB=true->x.o.late=true->T=N9++x.o.item.told:=λh hl=>by rw[hT];unfold dE.told dE.text;rw[if_pos h,if_pos hl]
 have eY:x.o.rightB=true->x.o.late=false->T=x.o.w.told++lS++itoaL x.o.r++numsL x.o.v:=λh hl=>by rw[hT];unfold dE.told dE.text;rw[if_pos h,if_neg (by rw[hl];decide)]
 have eU:=λh=>dE.right_cases (o:=x.o) h;clear hT;obtain⟨⟨late,⟨N,O,Q,R⟩,⟨E,F,I⟩,r,v⟩,tv,YC⟩:=x;have hV:bC w tv v:=hG;obtain⟨va,vc,hv,-,-⟩:=hG;have hv:tv=.slice va v.length vc:=hv;subst hv;obtain⟨n,hn⟩:=Nm (v.length);obtain⟨rt,ag⟩:=Nm ((dE.mk late ⟨N,O,Q,R⟩ ⟨E,F,I⟩ r v).rightB);simp only at eX ac eY eU;obtain⟨D,ad⟩:=Nm (w.alloc (.cells #[.bool late,.int .i64 N,Sv O,.int .i64 Q,.int .i64 R,Sv E,.int .i64 F,.int .i64 I,.int .i64 r,.slice va n vc] 37));obtain⟨d,ah⟩:=Nm (w.heap.size);have ai:Bw w D:=by rw[ad];exact(Below.refl _ w).alloc (bfx _) _
 have j:D.heap[d]? =some (.cells #[.bool late,.int .i64 N,Sv O,.int .i64 Q,.int .i64 R,Sv E,.int .i64 F,.int .i64 I,.int .i64 r,.slice va n vc] 37 (0,0)):=by rw[ad,ah];exact bg5 w _
 have e0:D.cell? ⟨d,0,none⟩=some (.bool late):=by rw[cell_of_row _ _ _ _ _ _ j];rfl
 have e1:D.cell? ⟨d,1,none⟩=some (.int .i64 N):=by rw[cell_of_row _ _ _ _ _ _ j];rfl
 have e2:D.cell? ⟨d,2,none⟩=some (Sv O):=by rw[cell_of_row _ _ _ _ _ _ j];rfl
 have e3:D.cell? ⟨d,3,none⟩=some (.int .i64 Q):=by rw[cell_of_row _ _ _ _ _ _ j];rfl
 have e4:D.cell? ⟨d,4,none⟩=some (.int .i64 R):=by rw[cell_of_row _ _ _ _ _ _ j];rfl
 have e5:D.cell? ⟨d,5,none⟩=some (Sv E):=by rw[cell_of_row _ _ _ _ _ _ j];rfl
 have e6:D.cell? ⟨d,6,none⟩=some (.int .i64 F):=by rw[cell_of_row _ _ _ _ _ _ j];rfl
 have e7:D.cell? ⟨d,7,none⟩=some (.int .i64 I):=by rw[cell_of_row _ _ _ _ _ _ j];rfl
 have e8:D.cell? ⟨d,8,none⟩=some (.int .i64 r):=by rw[cell_of_row _ _ _ _ _ _ j];rfl
 have e9:D.cell? ⟨d,9,none⟩=some (.slice va n vc):=by rw[cell_of_row _ _ _ _ _ _ j];rfl
 have ay:Calls prog 23 #[.agg #[.bool late,.int .i64 N,Sv O,.int .i64 Q,.int .i64 R,Sv E,.int .i64 F,.int .i64 I,.int .i64 r,.slice va n vc]] D (Below0 D (.bool rt)):=by
  rw[ag,hn];exact hR D ai
 rw[<-ag]at eX ac eY eU;have z:=Lh (bfy ad (bfy ah (bfy ai (bfy j (bfy ay (bfy hV (bfy hN (bfy hI (bfy hF hn)))))))));have HT:=Lh (bfy eX (bfy ac (bfy eY eU)));show Calls prog 24 #[.agg #[.bool late,.int .i64 N,Sv O,.int .i64 Q,.int .i64 R,Sv E,.int .i64 F,.int .i64 I,.int .i64 r,.slice va v.length vc]] w _;rw[<-hn];clear ad ah ai j ay hV hN hI hF hn ag eX ac eY eU hR;go_enter func24,ntmps24;go_upto_region 1 with fail;rw[<-z.out.1,<-z.out.2.1];go_wp2_with fail;refine z.out.2.2.2.2.1.mono ?_;rintro e m ⟨rfl,aj⟩;dsimp only;have a:m.heap[d]? =some (.cells #[.bool late,.int .i64 N,Sv O,.int .i64 Q,.int .i64 R,Sv E,.int .i64 F,.int .i64 I,.int .i64 r,.slice va n vc] 37 (0,0)):=(aj.block d (Array.getElem?_eq_some_iff.1 z.out.2.2.2.1).1).trans z.out.2.2.2.1;clear e0 e1 e2 e3 e4 e5 e6 e7 e8 e9;have e0:m.cell? ⟨d,0,none⟩=some (.bool late):=by rw[cell_of_row _ _ _ _ _ _ a];rfl
 have e1:m.cell? ⟨d,1,none⟩=some (.int .i64 N):=by rw[cell_of_row _ _ _ _ _ _ a];rfl
 have e2:m.cell? ⟨d,2,none⟩=some (Sv O):=by rw[cell_of_row _ _ _ _ _ _ a];rfl
 have e3:m.cell? ⟨d,3,none⟩=some (.int .i64 Q):=by rw[cell_of_row _ _ _ _ _ _ a];rfl
 have e4:m.cell? ⟨d,4,none⟩=some (.int .i64 R):=by rw[cell_of_row _ _ _ _ _ _ a];rfl
 have e5:m.cell? ⟨d,5,none⟩=some (Sv E):=by rw[cell_of_row _ _ _ _ _ _ a];rfl
 have e6:m.cell? ⟨d,6,none⟩=some (.int .i64 F):=by rw[cell_of_row _ _ _ _ _ _ a];rfl
 have e7:m.cell? ⟨d,7,none⟩=some (.int .i64 I):=by rw[cell_of_row _ _ _ _ _ _ a];rfl
 have e8:m.cell? ⟨d,8,none⟩=some (.int .i64 r):=by rw[cell_of_row _ _ _ _ _ _ a];rfl
 have e9:m.cell? ⟨d,9,none⟩=some (.slice va n vc):=by rw[cell_of_row _ _ _ _ _ _ a];rfl
 have H2:=Lh (bfy (z.out.2.2.1.trans (aj.mono z.out.2.2.1.size)) a);clear aj a
 cases rt with
 | false=>
  have Y:=Lh (HT.out.1 rfl);clear HT;go_wp2_with fail;go_ret;exact⟨by rw[Y.out];rfl,H2.out.1⟩
 | true=>
  cases late with
  | true=>
   have hl:(ItemL.told ⟨N,O,Q,R⟩).length<=80:=by
    rcases HT.out.2.2.2 rfl with h | h
    ·exact zx h.2.1
    cases h.1
   have Y:=Lh (bfy hl (HT.out.2.1 rfl rfl));clear HT hl;go_wp2_with fail;refine(Qk m ⟨N,O,Q,R⟩ z.out.2.2.2.2.2.2.2.2.1.1 (z.out.2.2.2.2.2.2.2.1.1.below H2.out.1)).mono ?_;rintro e w3 ⟨rfl,L⟩;obtain⟨hl,hq⟩:=Y.out;have Z:=λl=>run_add_Sv l N9 (ItemL.told ⟨N,O,Q,R⟩) (by have:N9.length=5:=rfl;omega)
   obtain⟨U,hU⟩:=Nm (Sv (ItemL.told ⟨N,O,Q,R⟩));rw[<-hU]at Z ⊢;have aH:∀l,(binOp .add 9 (.string ⟨#[108,97,116,101,32]⟩) U).run prog l=.ok (Sv T) l:=λl=>by rw[hq];exact Z l
   have H3:=Lh (H2.out.1.trans (L.mono H2.out.1.size));clear Z hU L hl hq;dsimp only;go_wp2_with fail;go_ret;exact⟨rfl,H3.out⟩
  | false=>
   have q:=HT.out.2.2.2 rfl;have hq:=HT.out.2.2.1 rfl rfl;rcases q with q | ⟨-,az,aA,aB,aI,aS⟩
   ·cases q.1
   have ak:=xQ az;obtain⟨wt,al⟩:=Nm ((bf.mk E F I).told);rw[<-al]at ak hq;have aJ:=z.out.2.2.2.2.2.2.2.1.below H2.out.1;have OW:=Lh (RP m.drew ⟨E,F,I⟩ z.out.2.2.2.2.2.2.2.2.1.2.1 (aJ.below ⟨rfl,rfl,rfl,bfx _,λ_ _=>rfl⟩));rw[<-al]at OW;have aa:=jO r (by omega)
   obtain⟨Oa,uf⟩:=Nm (itoaL r);rw[<-uf]at aa hq;have am:∀l,(binOp .add 9 (Sv wt) (.string ⟨#[32,35]⟩)).run prog l=.ok (Sv (wt++lS)) l:=λl=>run_add_Sv l wt lS (by have:lS.length=2:=rfl;omega)
   have an:∀l,(binOp .add 9 (Sv (wt++lS)) (Sv Oa)).run prog l=.ok (Sv (wt++lS++Oa)) l:=λl=>run_add_Sv l (wt++lS) Oa (by have:lS.length=2:=rfl;rw[bft];omega)
   obtain⟨L0,ao⟩:=Nm (wt++lS++Oa);obtain⟨L1,ap⟩:=Nm (wt++lS);rw[<-ao,<-ap]at an;rw[<-ap]at am;have Ov:=Lh ao;clear ao ap;have Y:=Lh (bfy hq (bfy ak (bfy aa (bfy aA (bfy aB (bfy aS uf))))));clear hq ak aa aA aB aS uf az aI al;have K0:Hid (m.drew.cell? ⟨d,5,none⟩=some (Sv E)/\m.drew.cell? ⟨d,6,none⟩=some (.int .i64 F)/\m.drew.cell? ⟨d,7,none⟩=some (.int .i64 I)/\m.drew.cell? ⟨d,8,none⟩=some (.int .i64 r)):=⟨e5,e6,e7,e8⟩;go_wp2_with fail;refine wp_region_held_drew (S:=λl=>l.cell? ⟨d,5,none⟩=some (Sv E)/\l.cell? ⟨d,6,none⟩=some (.int .i64 F)/\l.cell? ⟨d,7,none⟩=some (.int .i64 I)/\l.cell? ⟨d,8,none⟩=some (.int .i64 r)) (by kernel_rfl) K0.out (λb=>?_)
   refine tkF 0 b ?_
   try simp only[Act.put,bfw,bfv,bfu]
   refine tkFree (i:=1) rfl (by kernel_rfl) (by kernel_rfl) (by kernel_rfl) (λ_ _ _ h=>h) (.inl ⟨by rfl,λw ab=>by(have aO:=ab.1;have aP:=ab.2.1;have aQ:=ab.2.2.1);go_simp;rfl⟩) b ?_
   try simp only[Act.put,bfw,bfv,bfu]
   refine tkF 4 b ?_
   try simp only[Act.put,bfw,bfv,bfu]
   refine tkFree (i:=5) rfl (by kernel_rfl) (by kernel_rfl) (by kernel_rfl) (λ_ _ _ h=>h) (.inl ⟨by rfl,λw ab=>by(have aR:=ab.2.2.2);go_simp;rfl⟩) b ?_
   try simp only[Act.put,bfw,bfv,bfu]
   refine tkWant 2 rfl (by kernel_rfl) rfl (λK hK=>?_)
   go_simp;refine OW.out.mono ?_;rintro e w3 ⟨rfl,L⟩;have af:Below m.heap.size m.drew w3:=L;have aC:Bw m m.drew:=⟨rfl,rfl,rfl,bfx _,λ_ _=>rfl⟩;have oU:Bw w w3:=H2.out.1.trans ((aC.trans af).mono H2.out.1.size);have q:∀i u,m.cell? ⟨d,i,none⟩=some u->w3.cell? ⟨d,i,none⟩=some u:=λi u h=>(L.cell (p:=⟨d,i,none⟩) (block_lt_of_cell h)).trans h;have K3:w3.cell? ⟨d,5,none⟩=some (Sv E)/\w3.cell? ⟨d,6,none⟩=some (.int .i64 F)/\w3.cell? ⟨d,7,none⟩=some (.int .i64 I)/\w3.cell? ⟨d,8,none⟩=some (.int .i64 r):=⟨q _ _ e5,q _ _ e6,q _ _ e7,q _ _ e8⟩;have ar:=Lh (pU w3 r (by have:=Y.out.2.2.2;omega) (by have:=Y.out.2.2.2;omega) (z.out.2.2.2.2.2.2.2.1.1.below oU))
   rw[<-Y.out.2.2.2.2.2.2]at ar;have H3:=Lh (bfy oU (q _ _ e9));refine hK _ _ K3 ?_;clear q L af oU aC b hK;have b:=K3;have aZ:=Lh K3;clear K3 e0 e1 e2 e3 e4 e5 e6 e7 e8 e9
   try simp only[Act.put,bfw,bfv,bfu]
   refine tkF 3 b ?_
   try simp only[Act.put,bfw,bfv,bfu]
   refine tkWant 6 rfl (by kernel_rfl) rfl (λK hK=>?_)
   go_simp;refine ar.out.mono ?_;rintro e w4 ⟨rfl,au⟩;have q:∀i u,w3.cell? ⟨d,i,none⟩=some u->w4.cell? ⟨d,i,none⟩=some u:=λi u h=>(au.cell (p:=⟨d,i,none⟩) (block_lt_of_cell h)).trans h;refine hK _ _ ⟨q _ _ aZ.out.1,q _ _ aZ.out.2.1,q _ _ aZ.out.2.2.1,q _ _ aZ.out.2.2.2⟩ ?_;have e9:=q _ _ H3.out.2;have b:w4.cell? ⟨d,5,none⟩=some (Sv E)/\w4.cell? ⟨d,6,none⟩=some (.int .i64 F)/\w4.cell? ⟨d,7,none⟩=some (.int .i64 I)/\w4.cell? ⟨d,8,none⟩=some (.int .i64 r):=⟨q _ _ aZ.out.1,q _ _ aZ.out.2.1,q _ _ aZ.out.2.2.1,q _ _ aZ.out.2.2.2⟩;have H4:=Lh (H3.out.1.trans (au.mono H3.out.1.size));clear q au hK
   try simp only[Act.put,bfw,bfv,bfu]
   refine tkF 7 b ?_
   try simp only[Act.put,bfw,bfv,bfu]
   refine tkF 8 b ?_
   try simp only[Act.put,bfw,bfv,bfu]
   refine wpAnyH_done (by kernel_rfl) ?_ _
   clear b am an OW ar aZ H3 K0;have aD:L0.length<=110:=by
    rw[Ov.out];have h1:=Y.out.2.1;have h2:=Y.out.2.2.1;have h3:lS.length=2:=rfl;simp only[bft];omega
   have HL:=Lh (bfy Ov.out aD);clear Ov aD;have UB:n<=8:=by rw[z.out.2.2.2.2.2.2.2.2.2];exact Y.out.2.2.2.2.2.1
   go_wp2_with fail;go_loopw[3,26] (λs u wr=>∃i:Nat,i<=n/\u=.int .i64 (i:Int)/\s=Sv (L0++numsL (v.take i))/\Bw w wr) (λ_ u _=>n-(intOf u).toNat)
   case atStart=>exact⟨0,bgi _,rfl,by simp[numsL],H4.out⟩
   case round=>
    obtain⟨i,hi,rfl,rfl,M⟩:=hrel;have Us:=z.out.2.2.2.2.2.1.below M;by_cases av:i<n
    ·have aT:(0:Int)<=(i:Int)/\(i:Int)<n:=by omega
     have aK:=Lh av;obtain⟨y,bb,o,c,hy,he,aL⟩:=Us.get (t:=i) (by rw[<-z.out.2.2.2.2.2.2.2.2.2];exact av)
     injection he with he1 _ he3
     subst he1;have aw:=z.out.2.2.2.2.2.2.1 y (bf3 hy);have Uh:=pU wr y aw.1 (by omega) (z.out.2.2.2.2.2.2.2.1.1.below M)
     have aE:=jO y aw;have aM:=JH (v.take i) (λn hn=>z.out.2.2.2.2.2.2.1 n (List.mem_of_mem_take hn));have aa:(v.take i).length<=8:=by
      have h1:=Y.out.2.2.2.2.2.1;rw[bga];omega
     have ax:numsL (v.take (i+1))=numsL (v.take i)++(bBlank++itoaL y):=by
      rw[List.take_add_one,hy];exact MK _ _
     obtain⟨ty,aF⟩:=Nm (itoaL y);rw[<-aF]at Uh aE ax;obtain⟨ae,J⟩:=Nm (L0++numsL (v.take i));have aN:ae.length<=300:=by
      have:=HL.out.2;rw[J,bft];omega
     have am:∀l,(binOp .add 9 (.string ⟨#[32]⟩) (Sv ty)).run prog l=.ok (Sv (bBlank++ty)) l:=λl=>run_add_Sv l bBlank ty (by have:bBlank.length=1:=rfl;omega)
     have an:∀l,(binOp .add 9 (Sv ae) (Sv (bBlank++ty))).run prog l=.ok (Sv (ae++(bBlank++ty))) l:=λl=>run_add_Sv l ae (bBlank++ty) (by have:bBlank.length=1:=rfl;rw[bft];omega)
     rw[<-J];have HR:=Lh (bfy M (bfy ax (bfy J Uh)));clear M ax J Uh Us hy aw aE aM aa aF aN he3;go_wp2_with fail;refine HR.out.2.2.2.mono ?_;rintro e w8 ⟨rfl,aG⟩;have H8:=Lh (HR.out.1.trans (aG.mono HR.out.1.size));clear aG;dsimp only;go_wp2_with fail;have av:=aK.out;exact⟨⟨i+1,by omega,by go_num,by rw[HR.out.2.1,HR.out.2.2.1,bgz],H8.out⟩,by simp[intOf];omega⟩
    obtain rfl:i=n:=by omega
    have HR:=Lh M;clear M Us;go_wp2_with fail;go_ret;refine⟨?_,HR.out⟩;have e2:∀k,k=v.length->numsL (v.take k)=numsL v:=λk hk=>by rw[hk,bgs]
    rw[Y.out.1,<-HL.out.1,<-e2 _ z.out.2.2.2.2.2.2.2.2.2];rfl
end Go.Proofs.YtgfmbkoieacgoaaGreatDoor
set_option maxRecDepth 100000
set_option maxHeartbeats 2000000
namespace Go.Proofs.YtgfmbkoieacgoaaGreatDoor
open Go Go.RowKit Go.Proofs.Tryz
theorem bC.VZ {X:Nat->Prop} {b:Nat} {w w':World} {v:Value} {l:List Int} {m:List (BitVec 8)}(h:bC w v l)(y:PenAt X w b m)(z:PKept X b w w'):bC w' v l:=by
 obtain⟨a,c,e,D,h⟩:=h;refine⟨a,c,e,D,?_⟩;rcases h with h | ⟨n,o,r,d,E⟩
 ·exact .inl h
 rcases d with d | ⟨p,d⟩
 ·exact .inr ⟨n,o,r,.inl d,λi x j=>by rw[d]at j;simp at j⟩
 have q:n≠b:=by
  rintro rfl;obtain⟨u,k,_⟩:=y;rw[d]at k;injection k with k
  injection k with _ e2
  exact absurd e2 (by decide)
 have s:=z.row d (by decide) q
 exact .inr ⟨n,o,r,.inr ⟨p,s⟩,λi x j=>by
  rw[World.cell?_of_block (w:=w) (s.trans d.symm)];exact E i x j⟩
theorem SI(w:World)(X:Nat->Prop)(b:Nat)(l:List (BitVec 8))(x:bH)(hG:dL w x)(hF:PI x)(hN:zN x)(hP:PenAt X w b l)(hX:∀k,X k->k<w.heap.size)(hl:l.length<=1073600000):
  Calls prog 25 #[.pointer (some ⟨b,0,none⟩),.agg x.cells] w (PenEnd X b w (l++(if x.o.rightB=true then x.o.bytes else [])) (.bool x.o.rightB)):=by
 have hR:=λ(q:World) (hB:Bw w q)=>mZ q x (dL.below hG hB) hF;obtain⟨T,hT⟩:=Nm (l++(if x.o.rightB=true then x.o.bytes else []))
 rw[<-hT];have eX:x.o.rightB=false->T=l:=λh=>by rw[hT,h];simp
 have ac:x.o.rightB=true->x.o.late=true->T=(l++wordL 0)++x.o.item.bytes:=λh hl=>by rw[hT,if_pos h];unfold dE.bytes;rw[if_pos hl];simp[numberL]
 have eY:x.o.rightB=true->x.o.late=false->T=((((l++wordL 1)++x.o.w.bytes)++wordL x.o.r.toNat)++wordL x.o.v.length)++x.o.v.flatMap signedL:=λh hl=>by rw[hT,if_pos h];unfold dE.bytes;rw[if_neg (by rw[hl];decide)];simp[numberL]
 have eU:=λh=>dE.right_cases (o:=x.o) h;clear hT;obtain⟨⟨late,⟨N,O,Q,R⟩,⟨E,F,I⟩,r,v⟩,tv,YC⟩:=x;have hV:bC w tv v:=hG;obtain⟨U,Y,hv,-,-⟩:=hG;have hv:tv=.slice U v.length Y:=hv;subst hv;obtain⟨n,hn⟩:=Nm (v.length);obtain⟨rt,ai⟩:=Nm ((dE.mk late ⟨N,O,Q,R⟩ ⟨E,F,I⟩ r v).rightB);simp only at eX ac eY eU;obtain⟨J,ad⟩:=Nm (w.alloc (.cells #[.bool late,.int .i64 N,Sv O,.int .i64 Q,.int .i64 R,Sv E,.int .i64 F,.int .i64 I,.int .i64 r,.slice U n Y] 37));obtain⟨m,aj⟩:=Nm (w.heap.size);have ak:Bw w J:=by rw[ad];exact(Below.refl _ w).alloc (bfx _) _
 have j:J.heap[m]? =some (.cells #[.bool late,.int .i64 N,Sv O,.int .i64 Q,.int .i64 R,Sv E,.int .i64 F,.int .i64 I,.int .i64 r,.slice U n Y] 37 (0,0)):=by rw[ad,aj];exact bg5 w _
 have au:m≠b:=by have:=hP.lt;omega
 have e0:J.cell? ⟨m,0,none⟩=some (.bool late):=by rw[cell_of_row _ _ _ _ _ _ j];rfl
 have e1:J.cell? ⟨m,1,none⟩=some (.int .i64 N):=by rw[cell_of_row _ _ _ _ _ _ j];rfl
 have e2:J.cell? ⟨m,2,none⟩=some (Sv O):=by rw[cell_of_row _ _ _ _ _ _ j];rfl
 have e3:J.cell? ⟨m,3,none⟩=some (.int .i64 Q):=by rw[cell_of_row _ _ _ _ _ _ j];rfl
 have e4:J.cell? ⟨m,4,none⟩=some (.int .i64 R):=by rw[cell_of_row _ _ _ _ _ _ j];rfl
 have e5:J.cell? ⟨m,5,none⟩=some (Sv E):=by rw[cell_of_row _ _ _ _ _ _ j];rfl
 have e6:J.cell? ⟨m,6,none⟩=some (.int .i64 F):=by rw[cell_of_row _ _ _ _ _ _ j];rfl
 have e7:J.cell? ⟨m,7,none⟩=some (.int .i64 I):=by rw[cell_of_row _ _ _ _ _ _ j];rfl
 have e8:J.cell? ⟨m,8,none⟩=some (.int .i64 r):=by rw[cell_of_row _ _ _ _ _ _ j];rfl
 have e9:J.cell? ⟨m,9,none⟩=some (.slice U n Y):=by rw[cell_of_row _ _ _ _ _ _ j];rfl
 have av:Calls prog 23 #[.agg #[.bool late,.int .i64 N,Sv O,.int .i64 Q,.int .i64 R,Sv E,.int .i64 F,.int .i64 I,.int .i64 r,.slice U n Y]] J (Below0 J (.bool rt)):=by
  rw[ai,hn];exact hR J ak
 rw[<-ai]at eX ac eY eU ⊢;have HW:Hid (∀q p k,k<9223372036854775808->p.length<=1073730000->PenAt X q b p->PKept X b w q->Calls prog 65 #[.pointer (some ⟨b,0,none⟩),.int .i64 ((k:Nat):Int)] q (PenEnd X b q (p++wordL k) (.bool true))):=
  Lh (λq p k hk aa h1 h2=>pnumber_any q X b k p hk h1 (λk hk=>Nat.lt_of_lt_of_le (hX k hk) h2.size) (by omega))
 have Ec:Hid (∀q p k,-9223372036854775808<=k->k<=9223372036854775807->p.length<=1073730000->PenAt X q b p->PKept X b w q->Calls prog 68 #[.pointer (some ⟨b,0,none⟩),.int .i64 k] q (PenEnd X b q (p++signedL k) (.tuple #[]))):=
  Lh (λq p k hk aQ aa h1 h2=>psigned_any q X b k p hk (by omega) h1 (λk hk=>Nat.lt_of_lt_of_le (hX k hk) h2.size) (by omega))
 have HE:Hid (∀q p,(ItemL.mk N O Q R).rightB=true->p.length<=1073700000->PenAt X q b p->PKept X b w q->Calls prog 66 #[.pointer (some ⟨b,0,none⟩),.agg #[.int .i64 N,Sv O,.int .i64 Q,.int .i64 R]] q (PenEnd X b q (p++(ItemL.mk N O Q R).bytes) (.bool true))):=
  Lh (λq p hr aa h1 h2=>eput_yes q X b p ⟨N,O,Q,R⟩ hr h1 (λk hk=>Nat.lt_of_lt_of_le (hX k hk) h2.size) aa)
 have aD:Hid (∀q p,(bf.mk E F I).rightB=true->p.length<=1073700000->PenAt X q b p->PKept X b w q->Calls prog 67 #[.pointer (some ⟨b,0,none⟩),.agg #[Sv E,.int .i64 F,.int .i64 I]] q (PenEnd X b q (p++(bf.mk E F I).bytes) (.bool true))):=
  Lh (λq p hr aa h1 h2=>KC q X b p ⟨E,F,I⟩ hr h1 (λk hk=>Nat.lt_of_lt_of_le (hX k hk) h2.size) aa)
 have s:=Lh (bfy ad (bfy aj (bfy ak (bfy j (bfy av (bfy hV (bfy hN (bfy au (bfy hn (bfy hP hl))))))))));have HT:=Lh (bfy eX (bfy ac (bfy eY eU)));show Calls prog 25 #[.pointer (some ⟨b,0,none⟩),.agg #[.bool late,.int .i64 N,Sv O,.int .i64 Q,.int .i64 R,Sv E,.int .i64 F,.int .i64 I,.int .i64 r,.slice U v.length Y]] w _;rw[<-hn];clear ad aj ak j av hV hN hX hF hn ai eX ac eY eU hR au hP hl;go_enter func25,ntmps25;go_upto_region 1 with fail;rw[<-s.out.1,<-s.out.2.1];go_wp2_with fail;refine s.out.2.2.2.2.1.mono ?_;rintro e K ⟨rfl,al⟩;dsimp only;have d:K.heap[m]? =some (.cells #[.bool late,.int .i64 N,Sv O,.int .i64 Q,.int .i64 R,Sv E,.int .i64 F,.int .i64 I,.int .i64 r,.slice U n Y] 37 (0,0)):=(al.block m (Array.getElem?_eq_some_iff.1 s.out.2.2.2.1).1).trans s.out.2.2.2.1;clear e0 e1 e2 e3 e4 e5 e6 e7 e8 e9;have e0:K.cell? ⟨m,0,none⟩=some (.bool late):=by rw[cell_of_row _ _ _ _ _ _ d];rfl
 have e1:K.cell? ⟨m,1,none⟩=some (.int .i64 N):=by rw[cell_of_row _ _ _ _ _ _ d];rfl
 have e2:K.cell? ⟨m,2,none⟩=some (Sv O):=by rw[cell_of_row _ _ _ _ _ _ d];rfl
 have e3:K.cell? ⟨m,3,none⟩=some (.int .i64 Q):=by rw[cell_of_row _ _ _ _ _ _ d];rfl
 have e4:K.cell? ⟨m,4,none⟩=some (.int .i64 R):=by rw[cell_of_row _ _ _ _ _ _ d];rfl
 have e5:K.cell? ⟨m,5,none⟩=some (Sv E):=by rw[cell_of_row _ _ _ _ _ _ d];rfl
 have e6:K.cell? ⟨m,6,none⟩=some (.int .i64 F):=by rw[cell_of_row _ _ _ _ _ _ d];rfl
 have e7:K.cell? ⟨m,7,none⟩=some (.int .i64 I):=by rw[cell_of_row _ _ _ _ _ _ d];rfl
 have e8:K.cell? ⟨m,8,none⟩=some (.int .i64 r):=by rw[cell_of_row _ _ _ _ _ _ d];rfl
 have e9:K.cell? ⟨m,9,none⟩=some (.slice U n Y):=by rw[cell_of_row _ _ _ _ _ _ d];rfl
 have Y3:Bw w K:=s.out.2.2.1.trans (al.mono s.out.2.2.1.size);have Z:=Lh (bfy (s.out.2.2.2.2.2.2.2.2.2.1.below Y3) (bfy (PKept.of_below (X:=X) (b:=b) Y3) (bfy d (s.out.2.2.2.2.2.1.below Y3))));clear al d Y3
 cases rt with
 | false=>
  have HQ:=Lh (HT.out.1 rfl);clear HT;go_wp2_with fail;go_ret;exact⟨rfl,by rw[HQ.out];exact Z.out.1,Z.out.2.1⟩
 | true=>
  cases late with
  | true=>
   have ab:(ItemL.mk N O Q R).rightB=true:=by
    rcases HT.out.2.2.2 rfl with h | h
    ·exact h.2.1
    cases h.1
   have HQ:=Lh (bfy ab (HT.out.2.1 rfl rfl));clear HT ab;go_wp2_with fail;refine(HW.out K l 0 (by decide) (by have:=s.out.2.2.2.2.2.2.2.2.2.2;omega) Z.out.1 Z.out.2.1).mono ?_
   rintro e w3 ⟨rfl,S,D⟩;dsimp only;have a:=D.row Z.out.2.2.1 (by decide) s.out.2.2.2.2.2.2.2.1
   clear e0 e1 e2 e3 e4 e5 e6 e7 e8 e9;have e1:w3.cell? ⟨m,1,none⟩=some (.int .i64 N):=by rw[cell_of_row _ _ _ _ _ _ a];rfl
   have e2:w3.cell? ⟨m,2,none⟩=some (Sv O):=by rw[cell_of_row _ _ _ _ _ _ a];rfl
   have e3:w3.cell? ⟨m,3,none⟩=some (.int .i64 Q):=by rw[cell_of_row _ _ _ _ _ _ a];rfl
   have e4:w3.cell? ⟨m,4,none⟩=some (.int .i64 R):=by rw[cell_of_row _ _ _ _ _ _ a];rfl
   have H3:=Lh (bfy S (Z.out.2.1.trans D));clear S D a;go_wp2_with fail;obtain⟨ab,hq⟩:=HQ.out;refine(HE.out w3 (l++wordL 0) ab (by have:=s.out.2.2.2.2.2.2.2.2.2.2;have e:=wordL_length 0;rw[bft];omega) H3.out.1 H3.out.2).mono ?_
   rintro e w4 ⟨rfl,L,M⟩;rw[<-hq]at L;have H4:=Lh (bfy L (H3.out.2.trans M));clear L M hq ab;dsimp only;go_wp2_with fail;go_ret;exact⟨rfl,H4.out.1,H4.out.2⟩
  | false=>
   rcases HT.out.2.2.2 rfl with h | ⟨-,am,aE,aF,aG,aS⟩
   ·cases h.1
   obtain⟨rn,rfl⟩:∃k:Nat,r=(k:Int):=⟨r.toNat,by omega⟩
   have hq:=HT.out.2.2.1 rfl rfl;rw[Int.toNat_natCast,<-s.out.2.2.2.2.2.2.2.2.1]at hq;have aH:=s.out.2.2.2.2.2.2.2.2.2.2;have aI:=qw am;have aw:rn<9223372036854775808:=by omega
   have aJ:n<9223372036854775808:=by have:=s.out.2.2.2.2.2.2.2.2.1;omega
   rw[<-s.out.2.2.2.2.2.2.2.2.1]at aS;go_wp2_with fail;refine(HW.out K l 1 (by decide) (by omega) Z.out.1 Z.out.2.1).mono ?_
   rintro e w3 ⟨rfl,S,D⟩;dsimp only;have a:=D.row Z.out.2.2.1 (by decide) s.out.2.2.2.2.2.2.2.1
   clear e0 e1 e2 e3 e4 e5 e6 e7 e8 e9;have e5:w3.cell? ⟨m,5,none⟩=some (Sv E):=by rw[cell_of_row _ _ _ _ _ _ a];rfl
   have e6:w3.cell? ⟨m,6,none⟩=some (.int .i64 F):=by rw[cell_of_row _ _ _ _ _ _ a];rfl
   have e7:w3.cell? ⟨m,7,none⟩=some (.int .i64 I):=by rw[cell_of_row _ _ _ _ _ _ a];rfl
   have e8:w3.cell? ⟨m,8,none⟩=some (.int .i64 (rn:Int)):=by rw[cell_of_row _ _ _ _ _ _ a];rfl
   have e9:w3.cell? ⟨m,9,none⟩=some (.slice U n Y):=by rw[cell_of_row _ _ _ _ _ _ a];rfl
   have aK:=wordL_length 1;have ay:(l++wordL 1).length<=1073600010:=by rw[bft];omega
   obtain⟨l1,EZ⟩:∃p,p=l++wordL 1:=⟨_,rfl⟩;rw[<-EZ]at S ay hq;have H3:=Lh (bfy S (bfy (Z.out.2.1.trans D) (bfy a D)));clear S D a EZ;go_wp2_with fail;refine(aD.out w3 l1 am (by omega) H3.out.1 H3.out.2.1).mono ?_
   rintro e w4 ⟨rfl,L,M⟩;have z:=M.row H3.out.2.2.1 (by decide) s.out.2.2.2.2.2.2.2.1
   dsimp only;clear e5 e6 e7 e8 e9;have e8:w4.cell? ⟨m,8,none⟩=some (.int .i64 (rn:Int)):=by rw[cell_of_row _ _ _ _ _ _ z];rfl
   have e9:w4.cell? ⟨m,9,none⟩=some (.slice U n Y):=by rw[cell_of_row _ _ _ _ _ _ z];rfl
   have az:(l1++(bf.mk E F I).bytes).length<=1073600110:=by rw[bft];omega
   obtain⟨l2,E5⟩:∃p,p=l1++(bf.mk E F I).bytes:=⟨_,rfl⟩;rw[<-E5]at L az hq;have H4:=Lh (bfy L (bfy (H3.out.2.1.trans M) (bfy z (H3.out.2.2.2.trans M))));clear L M z E5;go_wp2_with fail;refine(HW.out w4 l2 rn aw (by omega) H4.out.1 H4.out.2.1).mono ?_
   rintro e w5 ⟨rfl,an,ae⟩;have Ya:=ae.row H4.out.2.2.1 (by decide) s.out.2.2.2.2.2.2.2.1
   dsimp only;clear e8 e9;have e9:w5.cell? ⟨m,9,none⟩=some (.slice U n Y):=by rw[cell_of_row _ _ _ _ _ _ Ya];rfl
   have aL:=wordL_length rn;have aA:(l2++wordL rn).length<=1073600120:=by rw[bft];omega
   obtain⟨l3,E8⟩:∃p,p=l2++wordL rn:=⟨_,rfl⟩;rw[<-E8]at an aA hq;have H5:=Lh (bfy an (bfy (H4.out.2.1.trans ae) (bfy Ya (H4.out.2.2.2.trans ae))));clear an ae Ya E8;go_wp2_with fail;refine(HW.out w5 l3 n aJ (by omega) H5.out.1 H5.out.2.1).mono ?_
   rintro e w6 ⟨rfl,uV,af⟩;have Y6:=af.row H5.out.2.2.1 (by decide) s.out.2.2.2.2.2.2.2.1
   dsimp only;clear e9;have e9:w6.cell? ⟨m,9,none⟩=some (.slice U n Y):=by rw[cell_of_row _ _ _ _ _ _ Y6];rfl
   have aM:=wordL_length n;have aN:(l3++wordL n).length<=1073600130:=by rw[bft];omega
   obtain⟨l4,Ia⟩:∃p,p=l3++wordL n:=⟨_,rfl⟩;rw[<-Ia]at uV aN hq;have H6:=Lh (bfy uV (bfy (H5.out.2.1.trans af) (bfy (H5.out.2.2.2.trans af) hq)));clear uV af Y6 Ia hq aK aL aM ay az aA aw am aI aH aE aF aG;go_wp2_with fail;go_loopw[40] (λu wr=>∃i:Nat,i<=n/\u=.int .i64 (i:Int)/\PenAt X wr b (l4++(v.take i).flatMap signedL)/\((v.take i).flatMap signedL).length<=10*i/\PKept X b w wr/\PKept X b K wr) (λu _=>n-(intOf u).toNat)
   case atStart=>exact⟨0,bgi _,rfl,by simpa using H6.out.1,by simp,H6.out.2.1,H6.out.2.2.1⟩
   case round=>
    obtain⟨i,hi,rfl,ax,ao,ag,ah⟩:=hrel;have hV:=Z.out.2.2.2.VZ Z.out.1 ah;by_cases ap:i<n
    ·have aR:(0:Int)<=(i:Int)/\(i:Int)<n:=by omega
     have aO:=Lh ap;obtain⟨y,bb,o,c,hy,he,aP⟩:=hV.get (t:=i) (by rw[<-s.out.2.2.2.2.2.2.2.2.1];exact ap)
     injection he with he1 _ he3
     subst he1;have aB:=s.out.2.2.2.2.2.2.1 y (bf3 hy);have HR:=Lh (bfy ax (bfy ao (bfy ag (bfy ah (bfy hy aB)))));clear ax ao ag ah hV hy aB he3;go_wp2_with fail;refine(Ec.out wr _ y HR.out.2.2.2.2.2.1 HR.out.2.2.2.2.2.2 (by have:=HR.out.2.1;rw[bft];omega) HR.out.1 HR.out.2.2.1).mono ?_
     rintro e w8 ⟨rfl,uX,ar⟩;have aC:l4++(v.take (i+1)).flatMap signedL=l4++(v.take i).flatMap signedL++signedL y/\((v.take (i+1)).flatMap signedL).length<=10*(i+1):=by
      have h1:=HR.out.2.1;have h2:(signedL y).length<=10:=wordL_length _;rw[List.take_add_one,HR.out.2.2.2.2.1];simp only[Option.toList_some,List.flatMap_append,List.flatMap_cons,List.flatMap_nil,bg2,bft,bgz,true_and];omega
     have H8:=Lh (bfy uX (bfy aC (bfy (HR.out.2.2.1.trans ar) (HR.out.2.2.2.1.trans ar))));clear uX ar aC;dsimp only;go_wp2_with fail;have ap:=aO.out;exact⟨⟨i+1,by omega,by go_num,by rw[H8.out.2.1.1];exact H8.out.1,H8.out.2.1.2,H8.out.2.2.1,H8.out.2.2.2⟩,by simp[intOf];omega⟩
    obtain rfl:i=n:=by omega
    have HR:=Lh (bfy ax ag);clear ax ao ag ah hV;go_wp2_with fail;go_ret;refine⟨rfl,?_,HR.out.2⟩;have h1:=HR.out.1;rw[s.out.2.2.2.2.2.2.2.2.1,bgs]at h1;rw[H6.out.2.2.2];exact h1
end Go.Proofs.YtgfmbkoieacgoaaGreatDoor
