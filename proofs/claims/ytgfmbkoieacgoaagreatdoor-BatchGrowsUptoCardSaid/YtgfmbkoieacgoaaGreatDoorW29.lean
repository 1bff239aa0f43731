/- 29. -/
import Derived.Test.YtgfmbkoieacgoaaGreatDoorW13
import Derived.Test.YtgfmbkoieacgoaaGreatDoorW22
import Derived.Test.YtgfmbkoieacgoaaGreatDoorW26
import Derived.Test.YtgfmbkoieacgoaaGreatDoorW28
set_option maxRecDepth 100000
set_option maxHeartbeats 4000000
namespace Go.Proofs.YtgfmbkoieacgoaaGreatDoor
open Go Go.RowKit Go.Proofs.Tryz
def NQ(w:World)(o:dE)(e:Ending)(w':World):Prop:=∃x:bH,x.o=o/\e=.returned (.agg x.cells)/\dL w' x/\Bw w w'
theorem QI(s:List (BitVec 8)):kw s≠[]:=by
 unfold kw;intro h;have:=List.map_eq_nil_iff.1 h;exact splitK_ne _ _ this
theorem Hz(k:List (BitVec 8))(a b c:Int):prog.built 37 [(0,.bool true),(1,.agg #[.int .i64 a,Sv k,.int .i64 b,.int .i64 c])]=some #[.bool true,.int .i64 a,Sv k,.int .i64 b,.int .i64 c,.string ⟨#[]⟩,.int .i64 0,.int .i64 0,.int .i64 0,.slice none 0 0]:=by kernel_rfl
theorem Ja(r:Int):prog.built 37 [(3,.int .i64 r)]=some #[.bool false,.int .i64 0,.string ⟨#[]⟩,.int .i64 0,.int .i64 0,.string ⟨#[]⟩,.int .i64 0,.int .i64 0,.int .i64 r,.slice none 0 0]:=by kernel_rfl
theorem TA:(prog.info? 3).map (λi=>(i.zero,i.size,i.bytes))=some (some (.int .i64 0),1,8):=by kernel_rfl
theorem vI {l:Array Oper} {o:Oper} {a:Act} {w:World} {K:Act->World->Prop} {Q:Exit->Act->World->Prop} {E:Prop}(m:o.guard=none)(x y:Operand)
  (u:o.op=.call { callee:=.builtin .append,args:=#[x,y],argTypes:=#[35,35] }) {b:Nat} {v:Value} {xs:List Int} (D:a.eval x=v) (k:gV w b v xs) {n:Int} {g:Nat}
  (F:a.eval y=.slice (some ⟨g,0,none⟩) 1 1) (I:w.cell? ⟨g,0,none⟩=some (.int .i64 n)) (s:xs.length+1<=1000) (c:b<=w.heap.size)
  (h:∀d w',gV w' b d (xs++[n])->w.grownBy w' v.ownBlock->(d.ownBlock=v.ownBlock∨d.ownBlock=some w.heap.size)->K (a.put o.dst d) w'):if Region.wanted o (yielded l a.tmps)=true then Oper.wp prog o a w K Q else E:=by
 rw[if_pos (by simp[Region.wanted,m])]
 obtain⟨i,J,p,q,r⟩:=info_parts TA;obtain⟨d,w',L,M,N,_,O⟩:=run_append_own_at (P:=prog) w b 35 o.type 3 i _ 1 8 underlying35 J p q r rfl (by decide) v (jG xs).length (jG xs) k ⟨g,0,none⟩ 1 1 [.int .i64 n] rfl (λj z e=>by
  match j,e with
  | 0,e=>
   simp only[bgp,bf5]at e;subst e;rw[addr_add];exact I
  | j+1,e=>simp at e) (λz R=>by rw[List.mem_singleton.1 R];rfl) (by rw[fC];unfold maxLen;omega) (by rw[fC];omega) c
 unfold Oper.wp execOp;simp only[u,resolve,invoke,builtin,Sem.run_bind,Sem.run_pure,Result.andThen_ok,bgb,bgc,bge,D,F,L];exact h d w' (by unfold gV Own;rw[show jG (xs++[n])=jG xs++[.int .i64 n] by simp[jG],bft];exact M) N O
theorem gV.form {w:World} {b:Nat} {v:Value} {l:List Int}(h:gV w b v l):∃a c,v=.slice a l.length c:=by
 obtain⟨a,c,e⟩:=Own.form h;exact⟨a,c,by rw[e,fC]⟩
theorem Gq {w:World} {a b:Nat} {c l:Array Value} {t k:TypeId} {m j:Nat × Nat}(h:w.heap[a]? =some (.cells c t m))(d:w.heap[b]? =some (.cells l k j))(n:t≠k):a≠b:=by
 rintro rfl;rw[h]at d;injection d with d
 injection d with _ e
 exact n e
theorem qH {w:World} {b:Nat} {e:TypeId} {m k:Nat} {v:Value} {xs:List Value}(h:w.ownsRow b e m v k xs) {a:Nat} {c:Array Value} {t:TypeId} {l:Nat × Nat}(n:w.heap[a]? =some (.cells c t l))(o:t≠e):v.ownBlock≠some a:=by
 rcases h.2 with⟨j,_⟩ | ⟨g,p,q,j,_,r,_⟩
 ·rw[j];intro d;cases d
 rw[j];intro d;injection d with d
 have:g=a:=d;subst this;exact Gq n r o rfl
structure Xy(w w2:World)(rb ob:Nat)(wk:List (BitVec 8))(wl wh r:Int)(vs:List Int)(wr:World):Prop where
 row:∃tv,wr.heap[ob]? =some (.cells #[.bool false,.int .i64 0,.string ⟨#[]⟩,.int .i64 0,.int .i64 0,Sv wk,.int .i64 wl,.int .i64 wh,.int .i64 r,tv] 37 (0,0))/\gV wr w2.heap.size tv vs
 res:fH wr rb dD
 below:Bw w wr
 keep:Bw w2 wr
 low:w.heap.size<=w2.heap.size/\w2.heap.size<=ob/\rb<ob
theorem VF {w l wr n:World} {F c m:Nat} {R:List (BitVec 8)} {S U r:Int} {vs:List Int} {I:Option Addr} {J:Nat}
  (d:wr.heap[c]? =some (.cells #[.bool false,.int .i64 0,.string ⟨#[]⟩,.int .i64 0,.int .i64 0,Sv R,.int .i64 S,.int .i64 U,.int .i64 r,.slice I m J] 37 (0,0))) (Q:gV wr l.heap.size (.slice I m J) vs) (h:fH wr F dD)
  (Y:Bw w wr) (Z:Bw l wr) (aa:w.heap.size<=l.heap.size/\l.heap.size<=c/\F<c) (hB:Bw wr n):
  (∀o,gV (n.alloc o) l.heap.size (.slice I m J) vs)/\(∀x,(n.alloc (.cells #[x] 3)).cell? ⟨n.heap.size,0,none⟩=some x)/\(∀o,l.heap.size<=(n.alloc o).heap.size)/\
  (∀o a,(n.alloc o).grownBy a (Value.slice I m J).ownBlock->a.heap[c]? =some (.cells #[.bool false,.int .i64 0,.string ⟨#[]⟩,.int .i64 0,.int .i64 0,Sv R,.int .i64 S,.int .i64 U,.int .i64 r,.slice I m J] 37 (0,0))/\
   ∀u y z D,gV a l.heap.size (.slice u y z) D->Xy w l F c R S U r D (a.setCell ⟨c,9,none⟩ (.slice u y z))):=by
 have b:∀o,Bw wr (n.alloc o):=λo=>hB.trans (((Below.refl _ n).alloc (bfx _) o).mono hB.size);refine⟨λo=>Own.far Q (b o),λx=>by rw[cell_of_row _ _ _ _ _ _ (bg5 n _)];rfl,λo=>bgn Z.size (b o).size,λo a K=>?_⟩
 have q:∀k,k<wr.heap.size->(Value.slice I m J).ownBlock≠some k->a.heap[k]? =wr.heap[k]? :=λk q E=>by
  rw[K.block k (Nat.lt_of_lt_of_le q (b o).size) (λe=>E e.symm)];exact(b o).block k q
 have ab:=h.lt;have ac:=(Array.getElem?_eq_some_iff.1 d).1;have h8:=(q c ac (qH Q d (by decide))).trans d
 have Ua:fH a F dD:=(q F ab (qH Q h (by decide))).trans h
 have ag:wr.heap.size<=a.heap.size:=bgn (b o).size K.size;refine⟨h8,λu y z D ho=>?_⟩;have j:∀k,k≠c->(a.setCell ⟨c,9,none⟩ (.slice u y z)).heap[k]? =a.heap[k]? :=λk q=>heap_setCell_other _ _ _ _ (show k≠c from q);have ah:(a.setCell ⟨c,9,none⟩ (.slice u y z)).heap.size=a.heap.size:=by simp[World.setCell]
 have s:∀k,k<l.heap.size->(a.setCell ⟨c,9,none⟩ (.slice u y z)).heap[k]? =wr.heap[k]? :=λk p=>by
  rw[j k (by omega)]
  exact q k (Nat.lt_of_lt_of_le p Z.size) λe=>by have:=(Own.lt Q e).1;omega
 have L:a.os=wr.os:=K.os.trans (b o).os;have M:a.tape=wr.tape:=K.tape.trans (b o).tape;have N:a.output=wr.output:=K.output.trans (b o).output;refine⟨⟨.slice u y z,?_,?_⟩,(j F (by omega)).trans Ua,Y.trans ⟨L,M,N,by omega,λk p=>s k (by omega)⟩,Z.trans ⟨L,M,N,by omega,λk p=>s k p⟩,aa⟩
 ·rw[heap_setCell_same a c 9 _ _ _ h8];rfl
 refine⟨ho.1,?_⟩;have E:=qH ho h8 (by decide)
 rcases ho.2 with e | ⟨g,ad,ae,hv,h1,af,O⟩
 ·exact .inl e
 refine .inr ⟨g,ad,ae,hv,h1,(j g λe=>E ?_).trans af,O⟩;rw[hv,e];rfl
theorem Ht(w:World)(s:List (BitVec 8))(hl:s.length<=900)(hL:nT w):Calls prog 55 #[Sv s] w (NQ w (jV s)):=by
  obtain⟨P,hP⟩:=Nm (NQ w (jV s));rw[<-hP];obtain⟨w0,ai⟩:=Nm (w.alloc (.cells #[.bool false,.int .i64 0,.string ⟨#[]⟩,.int .i64 0,.int .i64 0,.string ⟨#[]⟩,.int .i64 0,.int .i64 0,.int .i64 0,.slice none 0 0] 37));obtain⟨J,av⟩:=Nm (w.heap.size);have U:Bw w w0:=by rw[ai];exact(Below.refl _ w).alloc (bfx _) _
  have Z:fH w0 J dD:=by rw[ai,av];exact bg5 w _
  have j:=Lh (bfy ai (bfy av (bfy U (bfy Z (bfy hL hl)))));have XU:=Hu w0 s;have aw:=TN s;obtain⟨ps,aj⟩:=Nm (JV s);obtain⟨lt,L⟩:=Nm (L8 s);rw[<-aj]at aw;rw[<-aj,<-L]at XU;have aH:jV s=if lt=true/\(parseL ps).2=true then ⟨true,(parseL ps).1,bF,0,[]⟩else ND s:=by
    unfold jV;rw[L,aj]
  have HP:=Lh (bfy hP (bfy XU (bfy aw aH)));clear hP ai av U Z hL hl XU aw aj L aH;go_enter func55,ntmps55;go_upto_region 1 with fail;rw[<-j.out.1,<-j.out.2.1];go_wp2_with fail;refine HP.out.2.1.mono ?_;rintro e w1 ⟨rfl,rfl⟩;dsimp only;go_upto_if 19 with fail;go_cut[]from 5 to 27 (λwx=>fH wx J dD/\Bw w wx/\jV s=ND s)
  case first=>
    cases lt with
    | false=>
      have S:=HP.out.2.2.2;rw[if_neg (by simp)]at S
      have HQ:=Lh S;clear S;go_wp2_with fail;go_meet;exact⟨j.out.2.2.2.1,j.out.2.2.1,HQ.out⟩
    | true=>
      have S:=HP.out.2.2.2;have ax:=LG w1 ps (bgn HP.out.2.2.1 (bgn j.out.2.2.2.2.2 (by decide))) (j.out.2.2.2.2.1.below j.out.2.2.1)
      obtain⟨⟨⟨ik,XV,it,iv⟩,ok⟩,aI⟩:=Nm (parseL ps);rw[<-aI]at S ax;simp only at S;have aX:=Lh ax;clear ax aI;go_wp2_with fail;refine aX.out.mono ?_;rintro e M ⟨rfl,y⟩;have q:=Lh (bfy (j.out.2.2.2.1.below y) (j.out.2.2.1.trans (y.mono j.out.2.2.1.size)));clear y;unfold ItemL.cells;dsimp only
      cases ok with
      | false=>
        rw[if_neg (by simp)]at S
        have HQ:=Lh S;clear S;go_wp2_with fail;go_meet;have hB:∀o,Bw M (M.alloc o):=λo=>(Below.refl _ M).alloc (bfx _) o;exact⟨q.out.1.below (hB _),q.out.2.trans ((hB _).mono q.out.2.size),HQ.out⟩
      | true=>
        rw[if_pos (by simp)]at S
        have HQ:=Lh S;clear S;go_upto_region 5 with fail;obtain⟨D,ak⟩:=Nm (M.alloc (.cells #[.int .i64 ik,Sv XV,.int .i64 it,.int .i64 iv] 32));obtain⟨xb,ay⟩:=Nm (M.heap.size);have E:Bw M D:=by rw[ak];exact(Below.refl _ M).alloc (bfx _) _
        have a:D.heap[xb]? =some (.cells #[.int .i64 ik,Sv XV,.int .i64 it,.int .i64 iv] 32 (0,0)):=by rw[ak,ay];exact bg5 M _
        have e0:D.cell? ⟨xb,0,none⟩=some (.int .i64 ik):=by rw[cell_of_row _ _ _ _ _ _ a];rfl
        have e1:D.cell? ⟨xb,1,none⟩=some (Sv XV):=by rw[cell_of_row _ _ _ _ _ _ a];rfl
        have e2:D.cell? ⟨xb,2,none⟩=some (.int .i64 it):=by rw[cell_of_row _ _ _ _ _ _ a];rfl
        have e3:D.cell? ⟨xb,3,none⟩=some (.int .i64 iv):=by rw[cell_of_row _ _ _ _ _ _ a];rfl
        rw[<-ak,<-ay];have N:=Lh (bfy (q.out.1.below E) (q.out.2.trans (E.mono q.out.2.size)));clear ak ay E a;refine bg4 ?_
        iterate 3 go_step
        refine bV (by kernel_rfl) 37 _ rfl (bH.mk ⟨true,⟨ik,XV,it,iv⟩,bF,0,[]⟩ (.slice none 0 0) rfl).cells (by simp only[bgb,bgc,bge];exact Hz XV ik it iv) ?_
        refine bg6 rfl _ _ _ rfl J (bH.mk ⟨true,⟨ik,XV,it,iv⟩,bF,0,[]⟩ (.slice none 0 0) rfl).cells rfl rfl 37 dD.cells N.out.1 fE rfl (jl _) ?_;have hr:=N.out.1.reset (bH.mk ⟨true,⟨ik,XV,it,iv⟩,bF,0,[]⟩ (.slice none 0 0) rfl);have hz:Bw w (D.setRow J (bH.mk ⟨true,⟨ik,XV,it,iv⟩,bF,0,[]⟩ (.slice none 0 0) rfl).cells):=below_setRow N.out.2 (by rw[j.out.2.1];exact bfx _) _
        obtain⟨w4,O⟩:=Nm (D.setRow J (bH.mk ⟨true,⟨ik,XV,it,iv⟩,bF,0,[]⟩ (.slice none 0 0) rfl).cells);rw[<-O]at hr hz ⊢;have K:=Lh (bfy hr hz);clear hr hz O e0 e1 e2 e3;go_wp2_with fail;refine bodyPost_ret (v:=.agg (bH.mk ⟨true,⟨ik,XV,it,iv⟩,bF,0,[]⟩ (.slice none 0 0) rfl).cells) (results_cell_row (p:=2) (ty:=37) rfl _ _ J 37 _ (0,0) _ rfl K.out.1 underlying37 rfl fE) rfl ?_;rw[HP.out.1];exact⟨bH.mk ⟨true,⟨ik,XV,it,iv⟩,bF,0,[]⟩ (.slice none 0 0) rfl,HQ.out.symm,rfl,bC.nil _,K.out.2⟩
  case rest=>
    obtain⟨aJ,U,aK⟩:=hcut;have HC:=Lh (bfy aJ (bfy U aK));have al:=λw' (hB:Bw w w')=>PZ w' s (bgn j.out.2.2.2.2.2 (by decide)) (j.out.2.2.2.2.1.below hB).2.2
    have am:=S9 s;obtain⟨⟨win,uP⟩,az⟩:=Nm (wY s);have aL:ND s=⟨false,zeroI,(parseW win).1,numL ((kw uP).headD []),((kw uP).drop 1).map numL⟩:=by
      unfold ND;rw[<-az]
    rw[<-az]at al am;simp only at al am;obtain⟨⟨wk,wl,wh⟩,aM⟩:=Nm ((parseW win).1);have iH:=Lh (bfy aL (bfy am (bfy aM al)));clear aJ U aK al am az aL aM;go_wp2_with fail;refine(iH.out.2.2.2 _ HC.out.2.1).mono ?_;rintro e w1 ⟨⟨z,rfl⟩,k,rfl⟩;obtain⟨w1,aA⟩:=Nm (wc.drewN k);have aB:Bw wc w1:=by rw[aA];exact below_draws Br _
    rw[<-aA];have H1:=Lh (bfy (HC.out.1.below aB) (HC.out.2.1.trans (aB.mono HC.out.2.1.size)));clear aB aA;dsimp only;go_wp2_with fail;refine(La w1 uP (bgn iH.out.2.1.2 (bgn j.out.2.2.2.2.2 (by decide))) (j.out.2.2.2.2.1.below H1.out.2)).mono ?_
    rintro e M ⟨a3,rfl,aa,y,ab,UB⟩;have aC:=QI uP;have an:=MG uP;obtain⟨ws,aD⟩:=Nm (kw uP);obtain⟨g,hg⟩:=Nm (w1.heap.size);rw[<-aD]at aa ab UB aC an ⊢;rw[<-hg]at aa ⊢;obtain⟨n,hn⟩:=Nm (ws.length);rw[<-hn]at ab UB ⊢;obtain⟨x0,a4,ac⟩:∃x l,ws=x::l:=by
      cases ws with
      | nil=>exact absurd rfl aC
      | cons x l=>exact⟨x,l,rfl⟩
    have e0:M.cell? ⟨g,0,none⟩=some (Sv x0):=aa 0 x0 (by rw[ac];rfl)
    have aY:1<=n:=by rw[hn,ac];simp
    have aN:(0:Int)<=(0:Int)/\(0:Int)<(n:Int):=by omega
    have ad:=yQ M x0 (bgn (an x0 (by rw[ac];simp)) (bgn iH.out.2.1.2 (bgn j.out.2.2.2.2.2 (by decide)))) ((j.out.2.2.2.2.1.below H1.out.2).below y).2.1
    obtain⟨r,hr⟩:=Nm (numL x0);rw[<-hr]at ad;have q:=Lh (bfy (H1.out.1.below y) (bfy (H1.out.2.trans (y.mono H1.out.2.size)) (bfy aa (bfy aD (bfy hn (bfy ab (bfy ac (bfy hr (bfy ad an)))))))));clear aa y aC an aD hg hn ac hr ad;dsimp only;go_wp2_with fail;refine q.out.2.2.2.2.2.2.2.2.1.mono ?_;rintro e D ⟨rfl,E⟩;have N:=Lh (bfy (q.out.1.below E) (bfy (q.out.2.1.trans (E.mono q.out.2.1.size)) E));clear E e0 aN;dsimp only
    iterate 1 go_step
    refine bV (by kernel_rfl) 37 _ rfl _ (by simp only[bgb,bgc,bge];exact Ja r) ?_
    go_upto_region 9 with fail;obtain⟨w4,O⟩:=Nm (D.alloc (.cells #[.bool false,.int .i64 0,.string ⟨#[]⟩,.int .i64 0,.int .i64 0,.string ⟨#[]⟩,.int .i64 0,.int .i64 0,.int .i64 r,.slice none 0 0] 37));obtain⟨c,ae⟩:=Nm (D.heap.size);have af:Bw D w4:=by rw[O];exact(Below.refl _ D).alloc (bfx _) _
    have ag:w4.heap[c]? =some (.cells #[.bool false,.int .i64 0,.string ⟨#[]⟩,.int .i64 0,.int .i64 0,.string ⟨#[]⟩,.int .i64 0,.int .i64 0,.int .i64 r,.slice none 0 0] 37 (0,0)):=by rw[O,ae];exact bg5 D _
    rw[<-O,<-ae];have Ij:J<c:=by rw[ae];exact N.out.1.lt
    have ar:w.heap.size<=c:=by rw[ae];exact N.out.2.1.size
    have au:Bw M w4:=N.out.2.2.trans (af.mono N.out.2.2.size);have aE:=NG w4 win (bgn iH.out.2.1.1 j.out.2.2.2.2.2) ((λ(h:nT w4)=>(⟨h.1,h.2.1,h.2.2⟩:lC w4)) ((j.out.2.2.2.2.1.below (N.out.2.1.trans (af.mono N.out.2.1.size)))));rw[<-iH.out.2.2.1]at aE;have K:=Lh (bfy (N.out.1.below af) (bfy (N.out.2.1.trans (af.mono N.out.2.1.size)) (bfy ag (bfy Ij (bfy ar (bfy au aE))))));have A7:Hid (D.heap.size<=c):=Lh (by omega)
    clear O ae af ag Ij ar au aE;go_wp2_with fail;refine K.out.2.2.2.2.2.2.mono ?_;rintro e w5 ⟨rfl,ah⟩;have Ya:=(ah.block c (Array.getElem?_eq_some_iff.1 K.out.2.2.1).1).trans K.out.2.2.1;have H5:=Lh (bfy (K.out.1.below ah) (bfy (K.out.2.1.trans (ah.mono K.out.2.1.size)) (bfy Ya (K.out.2.2.2.2.2.1.trans (ah.mono K.out.2.2.2.2.2.1.size)))));have c5:w5.cell? ⟨c,5,none⟩=some (.string ⟨#[]⟩):=by rw[cell_of_row _ _ _ _ _ _ Ya];rfl
    have c6:w5.cell? ⟨c,6,none⟩=some (.int .i64 0):=by rw[cell_of_row _ _ _ _ _ _ Ya];rfl
    have c7:w5.cell? ⟨c,7,none⟩=some (.int .i64 0):=by rw[cell_of_row _ _ _ _ _ _ Ya];rfl
    have f5:=frozen_of_row w5 c 5 _ _ Ya;have f6:=frozen_of_row w5 c 6 _ _ Ya;have f7:=frozen_of_row w5 c 7 _ _ Ya;clear ah Ya;unfold bf.cells;dsimp only;go_upto_region 10 with fail;obtain⟨w6,d⟩:=Nm (((w5.setCell ⟨c,5,none⟩ (Sv wk)).setCell ⟨c,6,none⟩ (.int .i64 wl)).setCell ⟨c,7,none⟩ (.int .i64 wh));have Y6:w6.heap[c]? =some (.cells #[.bool false,.int .i64 0,.string ⟨#[]⟩,.int .i64 0,.int .i64 0,Sv wk,.int .i64 wl,.int .i64 wh,.int .i64 r,.slice none 0 0] 37 (0,0)):=by
      rw[d,heap_setCell_same _ c 7 _ _ _ (heap_setCell_same _ c 6 _ _ _ (heap_setCell_same w5 c 5 _ _ _ H5.out.2.2.1))];rfl
    have Q:∀k,k≠c->w6.heap[k]? =w5.heap[k]? :=λk hk=>by
      rw[d,heap_setCell_other _ _ _ _ (show k≠c from hk),heap_setCell_other _ _ _ _ (show k≠c from hk),heap_setCell_other _ _ _ _ (show k≠c from hk)]
    have UH:w6.heap.size=w5.heap.size:=by rw[d];simp[World.setCell]
    have EK:Below w.heap.size w5 w6:=⟨by rw[d];rfl,by rw[d];rfl,by rw[d];rfl,by omega,λk hk=>Q k (by have:=K.out.2.2.2.2.1;omega)⟩
    have ET:fH w6 J dD:=(Q J (by have:=K.out.2.2.2.1;omega)).trans H5.out.1
    have EJ:Bw M w6:=H5.out.2.2.2.trans ⟨by rw[d];rfl,by rw[d];rfl,by rw[d];rfl,by omega,λk hk=>Q k (by
      have h1:=(Array.getElem?_eq_some_iff.1 K.out.2.2.1).1;have h2:=K.out.2.2.2.2.2.2;have h3:=N.out.2.2.size;have h4:D.heap.size<=c:=A7.out;omega)⟩
    obtain⟨a5,a6,a7,aO⟩:=NE q.out.2.2.1 q.out.2.2.2.2.1 aY q.out.2.2.2.2.2.1;have H6:Hid (Xy w M J c wk wl wh r [] w6):=⟨⟨_,Y6,Own.nil _ _ _⟩,ET,H5.out.2.1.trans EK,EJ,q.out.2.1.size,by have h3:=N.out.2.2.size;have h4:D.heap.size<=c:=A7.out;omega,K.out.2.2.2.1⟩
    have aZ:=Lh aO;rw[<-d];clear d Y6 Q UH EK ET EJ aO c5 c6 c7 f5 f6 f7;go_wp2_with fail;go_loopw[50] (λu wr=>∃i:Nat,i<=n-1/\u=.int .i64 (i:Int)/\Xy w M J c wk wl wh r (((ws.drop 1).take i).map numL) wr) (λu _=>(n-1)-(intOf u).toNat)
    case atStart=>exact⟨0,bgi _,rfl,H6.out⟩
    case round=>
      obtain⟨i,hi,rfl,Un⟩:=hrel;by_cases L:i<n-1
      · have aN:(0:Int)<=(i:Int)/\(i:Int)<((n-1:Nat):Int):=by omega
        have a0:=Lh L;obtain⟨x,hx⟩:∃x,(ws.drop 1)[i]? =some x:=⟨_,bfs (by rw[bgx,<-q.out.2.2.2.2.1];exact L)⟩
        obtain⟨rfl,aF⟩:=aZ.out i x hx;have hc:wr.cell? ⟨g,1+i,none⟩=some (Sv x):=(Un.keep.cell (p:=⟨g,1+i,none⟩) (block_lt_of_cell aF)).trans aF;obtain⟨⟨tv,a,hO⟩,F,R,ao,ap⟩:=Un;obtain⟨vs,I⟩:=Nm (((ws.drop 1).take i).map numL);rw[<-I]at hO;have aP:vs.length<=8:=by rw[I,bfz,bga];omega
        have aQ:((ws.drop 1).take (i+1)).map numL=vs++[numL x]:=by
          rw[List.take_add_one,hx,I];simp
        obtain⟨ta,tc,rfl⟩:=hO.form;obtain⟨m,hm⟩:=Nm (vs.length);rw[<-hm]at a hO;have aR:x.length<=1000000:=by
          have h1:=q.out.2.2.2.2.2.2.2.2.2 x (List.mem_of_mem_drop (bf3 hx));have h2:=iH.out.2.1.2;have h3:=j.out.2.2.2.2.2;omega
        have aS:Bw wr wr.drew:=⟨rfl,rfl,rfl,bfx _,λ_ _=>rfl⟩;have oI:=Lh (yQ wr.drew x aR ((j.out.2.2.2.2.1.below (Tb R aS)).2.1));have e9:wr.drew.cell? ⟨c,9,none⟩=some (.slice ta m tc):=by
          show wr.cell? _=_;rw[cell_of_row _ _ _ _ _ _ a];rfl
        have HR:=Lh (bfy a (bfy hO (bfy F (bfy R (bfy ap (bfy aQ (bfy aP (bfy hm ao))))))));obtain⟨nx,aT⟩:=Nm (numL x);rw[<-aT]at oI HR;clear hx aF a hO F R ap I aP aQ hm aR aS ao aT;go_upto_region 13 with fail;go_region_law (first
          | (refine vI (v:=.slice ta m tc) (xs:=vs) rfl _ _ rfl rfl (HC.out.1 _) rfl (HC.out.2.1 _) (by have:=HR.out.2.2.2.2.2.2.1;omega) (HC.out.2.2.1 _) ?_
             intro v' w8 ho hg hv;obtain⟨va,vc,rfl⟩:=ho.form;have h8:=HC.out.2.2.2 _ _ hg;have e8:w8.cell? ⟨c,9,none⟩=some (.slice ta m tc):=by rw[cell_of_row _ _ _ _ _ _ h8.1];rfl
             have f8:=frozen_of_row w8 c 9 _ _ h8.1;have HW:=Lh (h8.2 _ _ _ _ ho);clear ho hg hv h8)
          | (rw[if_pos (by rfl)]
             go_simp;refine oI.out.mono ?_;rintro e w7 ⟨rfl,aU⟩;have iJ:Below wr.heap.size wr.drew w7:=aU;have eG:Bw wr w7:=Below.trans (b:=wr.drew) (show Bw wr wr.drew from⟨rfl,rfl,rfl,bfx _,λ_ _=>rfl⟩) iJ;have Yd:=(eG.block c (Array.getElem?_eq_some_iff.1 HR.out.1).1).trans HR.out.1;have O8:w7.cell? ⟨c,9,none⟩=some (.slice ta m tc):=by rw[cell_of_row _ _ _ _ _ _ Yd];rfl
             have YG:∀o,(w7.alloc o).heap[c]? =w7.heap[c]? :=λo=>heap_alloc_old _ _ (Array.getElem?_eq_some_iff.1 Yd).1;have O7:∀o,(w7.alloc o).cell? ⟨c,9,none⟩=some (.slice ta m tc):=λo=>by rw[cell_of_row _ _ _ _ _ _ ((YG o).trans Yd)];rfl
             have HC:=Lh (VF HR.out.1 HR.out.2.1 HR.out.2.2.1 HR.out.2.2.2.1 HR.out.2.2.2.2.2.2.2.2 HR.out.2.2.2.2.1 eG);have a1:=Lh eG;clear aU eG iJ Yd YG;dsimp only))
        all_goals
          have HE:=HW;clear HW HC a1 oI e9 O8 O7 e8 f8 hc;go_wp2_with fail;have L:=a0.out;exact⟨⟨i+1,by omega,by go_num,by rw[HR.out.2.2.2.2.2.1];simpa only[bft,bg0]using HE.out⟩,by simp[intOf];omega⟩
      · obtain rfl:i=n - 1:=by omega
        obtain⟨⟨tv,a,hO⟩,F,R,ao,ap⟩:=Un;obtain⟨ta,tc,rfl⟩:=hO.form;obtain⟨vs,I⟩:=Nm (((ws.drop 1).take (n - 1)).map numL);rw[<-I]at a hO;have e0:wr.cell? ⟨c,0,none⟩=some (.bool false):=by rw[cell_of_row _ _ _ _ _ _ a];rfl
        have e1:wr.cell? ⟨c,1,none⟩=some (.int .i64 0):=by rw[cell_of_row _ _ _ _ _ _ a];rfl
        have e2:wr.cell? ⟨c,2,none⟩=some (.string ⟨#[]⟩):=by rw[cell_of_row _ _ _ _ _ _ a];rfl
        have e3:wr.cell? ⟨c,3,none⟩=some (.int .i64 0):=by rw[cell_of_row _ _ _ _ _ _ a];rfl
        have e4:wr.cell? ⟨c,4,none⟩=some (.int .i64 0):=by rw[cell_of_row _ _ _ _ _ _ a];rfl
        have e5:wr.cell? ⟨c,5,none⟩=some (Sv wk):=by rw[cell_of_row _ _ _ _ _ _ a];rfl
        have e6:wr.cell? ⟨c,6,none⟩=some (.int .i64 wl):=by rw[cell_of_row _ _ _ _ _ _ a];rfl
        have e7:wr.cell? ⟨c,7,none⟩=some (.int .i64 wh):=by rw[cell_of_row _ _ _ _ _ _ a];rfl
        have e8:wr.cell? ⟨c,8,none⟩=some (.int .i64 r):=by rw[cell_of_row _ _ _ _ _ _ a];rfl
        have e9:wr.cell? ⟨c,9,none⟩=some (.slice ta vs.length tc):=by rw[cell_of_row _ _ _ _ _ _ a];rfl
        obtain⟨Y,hY⟩:=Nm (bH.mk ⟨false,zeroI,⟨wk,wl,wh⟩,r,vs⟩ (.slice ta vs.length tc) rfl);have a2:#[.bool false,.int .i64 0,.string ⟨#[]⟩,.int .i64 0,.int .i64 0,Sv wk,.int .i64 wl,.int .i64 wh,.int .i64 r,.slice ta vs.length tc]=Y.cells:=by rw[hY];rfl
        have aV:Y.o=ND s:=by
          rw[hY,iH.out.1,<-iH.out.2.2.1,<-q.out.2.2.2.1,q.out.2.2.2.2.2.2.2.1,I,List.take_of_length_le (by rw[bgx,<-q.out.2.2.2.2.1];exact bfx _),q.out.2.2.2.2.2.2.1]
          rfl
        have HZ:=Lh (bfy F (bfy R (bfy hO (bfy hY aV))));clear I a hO F R ao ap hY aV;go_upto_region 15 with fail;refine bg4 ?_
        iterate 3 go_step
        refine bg6 rfl _ _ _ rfl J Y.cells rfl (by rw[<-a2];rfl) 37 dD.cells HZ.out.1 fE rfl (jl _) ?_
        have hr:=HZ.out.1.reset Y;have hz:Bw w (wr.setRow J Y.cells):=below_setRow HZ.out.2.1 (by rw[j.out.2.1];exact bfx _) _
        have aG:bC (wr.setRow J Y.cells) (.slice ta vs.length tc) vs:=(HZ.out.2.2.1.ints).grown (bD _ _ _) (λa' n' c' e _=>by
          have h1:=qH HZ.out.2.2.1 HZ.out.1 (by decide)
          cases e
          intro e2;exact h1 (by rw[<-e2];rfl))
        obtain⟨w9,aW⟩:=Nm (wr.setRow J Y.cells);rw[<-aW]at hr hz aG ⊢;have H9:=Lh (bfy hr (bfy hz aG));clear hr hz aG aW e0 e1 e2 e3 e4 e5 e6 e7 e8 e9;go_wp2_with fail;refine bodyPost_ret (v:=.agg Y.cells) (results_cell_row (p:=2) (ty:=37) rfl _ _ J 37 _ (0,0) _ rfl H9.out.1 underlying37 rfl fE) rfl ?_;rw[HP.out.1];refine⟨Y,HZ.out.2.2.2.2.trans HC.out.2.2.symm,rfl,?_,H9.out.2.1⟩;rw[HZ.out.2.2.2.1];exact H9.out.2.2
theorem MI(l:List (BitVec 8)): -9223372036854775808<=numL l/\numL l<=9223372036854775807:=by
 unfold numL
 split
 ·exact Lib.atoiAll_bounds (by assumption)
 omega
theorem JG(s:List (BitVec 8)):(kw s).length<=9:=by
 have b:=Lib.splitB_data ⟨#[32]⟩ 0 (min 9 (s.length+1)-1) ⟨(lvB s).toArray⟩;have c:=Lib.splitB_length_le ⟨#[32]⟩ 0 (min 9 (s.length+1)-1) ⟨(lvB s).toArray⟩;have a:(Lib.splitB ⟨#[32]⟩ 0 (min 9 (s.length+1)-1) ⟨(lvB s).toArray⟩).map (·.data.toList)=Lib.splitK [32] 0 (min 9 (s.length+1)-1) (lvB s):=by simpa using b
 unfold kw;rw[<-a,bfz,bfz];omega
theorem MQ(s:List (BitVec 8)):(parseW s).1.key.length<=16:=by
 cases h:(parseW s).2 with
 | false=>rw[DN h];exact bgi _
 | true=>exact(bU (xA (s:=s) (x:=(parseW s).1) (by rw[<-h])).1).2.2.1
theorem MP(s:List (BitVec 8)):(parseL s).1.key.length<=16:=by
 unfold parseL
 split
 ·rename_i h;obtain⟨c,_⟩:=h;obtain⟨x,d⟩:=Nm (itemW (wordsOf s));rw[<-d]at c ⊢;clear d;obtain⟨e,key,j,b⟩:=x;obtain⟨_,a⟩:=right_cases c;rcases a with⟨_,a,_⟩ | ⟨_,_,_,a,_⟩
  ·simp only at a ⊢;rw[a];exact bgi _
  exact a
 exact bgi _
theorem JS(s:List (BitVec 8)):(jV s).item.key.length<=1000000/\(jV s).w.key.length<=1000000/\(jV s).v.length<=1000000/\∀n∈(jV s).v,-9223372036854775808<=n/\n<=9223372036854775807:=by
 unfold jV
 split
 ·exact⟨bgn (MP _) (by decide),bgi _,bgi _,λn a=>by simp at a⟩
 have b:=JG (wY s).2;refine⟨bgi _,bgn (MQ _) (by decide),?_,λn a=>?_⟩
 ·simp only[ND,bfz,bgx];omega
 obtain⟨x,_,rfl⟩:=List.mem_map.1 a;exact MI x
theorem qp:prog.built 37 []=some dD.cells:=by kernel_rfl
def zM(w:World)(p:dE × Bool)(e:Ending)(w':World):Prop:=∃x:bH,x.o=p.1/\e=.returned (.tuple #[.agg x.cells,.bool p.2])/\dL w' x/\Bw w w'
theorem KY(w:World)(s:List (BitVec 8))(hl:s.length<=900)(hL:nT w):Calls prog 20 #[Sv s] w (zM w (qI s)):=by
 obtain⟨P,hP⟩:=Nm (zM w (qI s));rw[<-hP];obtain⟨w0,U⟩:=Nm (w.alloc (.cells #[.bool false,.int .i64 0,.string ⟨#[]⟩,.int .i64 0,.int .i64 0,.string ⟨#[]⟩,.int .i64 0,.int .i64 0,.int .i64 0,.slice none 0 0] 37));obtain⟨D,aa⟩:=Nm (w.heap.size);have ab:Bw w w0:=by rw[U];exact(Below.refl _ w).alloc (bfx _) _
 have M:fH w0 D dD:=by rw[U,aa];exact bg5 w _
 have ag:=Ht w0 s hl (hL.below ab);have J:=Lh (bfy U (bfy aa (bfy ab (bfy M (bfy hL (bfy hl (bfy ag hP)))))));clear hP U aa ab M hL hl ag;go_enter func20,ntmps20;go_upto_region 1 with fail;rw[<-J.out.1,<-J.out.2.1];go_wp2_with fail;refine J.out.2.2.2.2.2.2.1.mono ?_;rintro e w1 ⟨x,hx,rfl,hG,hB⟩;have k:=JS s;rw[<-hx]at k;have hF:PI x:=⟨k.1,k.2.1,k.2.2.1⟩;have ah:zN x:=k.2.2.2;obtain⟨ta,tc,hv,-,-⟩:=id hG;have YB:=λ(F:World) (h:Bw w1 F)=>mZ F x (dL.below hG h) hF;have ai:=λ(F:World) (h:Bw w1 F) (hI:lC F)=>yf F x (dL.below hG h) hF ah hI;have m:=Lh (bfy hx (bfy hG (bfy (J.out.2.2.2.1.below hB) (bfy (J.out.2.2.1.trans (hB.mono J.out.2.2.1.size)) (bfy YB ai)))));obtain⟨n,hn⟩:=Nm (x.o.v.length);rw[<-hn]at hv;obtain⟨rt,aj⟩:=Nm (x.o.rightB);obtain⟨td,ak⟩:=Nm (x.o.told);have HN:=Lh (bfy aj ak);obtain⟨X,hX⟩:=Nm x;obtain⟨⟨l,⟨ik,XV,it,iv⟩,⟨wk,wl,wh⟩,r,v⟩,tv,YC⟩:=x;have hv:tv=.slice ta n tc:=hv;subst hv;have ZV:X.cells=#[.bool l,.int .i64 ik,Sv XV,.int .i64 it,.int .i64 iv,Sv wk,.int .i64 wl,.int .i64 wh,.int .i64 r,.slice ta n tc]:=by rw[hX];rfl
 rw[<-hX]at m HN;have uM:=Lh ZV;clear hx k hF ah hG YB ai hn aj ak hX ZV hB;unfold bH.cells;dsimp only;go_upto_region 2 with fail;obtain⟨K,Y⟩:=Nm (w1.alloc (.cells #[.bool l,.int .i64 ik,Sv XV,.int .i64 it,.int .i64 iv,Sv wk,.int .i64 wl,.int .i64 wh,.int .i64 r,.slice ta n tc] 37));obtain⟨d,Z⟩:=Nm (w1.heap.size);have al:Bw w1 K:=by rw[Y];exact(Below.refl _ w1).alloc (bfx _) _
 have a:K.heap[d]? =some (.cells #[.bool l,.int .i64 ik,Sv XV,.int .i64 it,.int .i64 iv,Sv wk,.int .i64 wl,.int .i64 wh,.int .i64 r,.slice ta n tc] 37 (0,0)):=by rw[Y,Z];exact bg5 w1 _
 rw[<-Y,<-Z];have H2:=Lh (bfy al (bfy a (show D<d from by rw[Z];exact m.out.2.2.1.lt)))
 have I:K.cell? ⟨d,0,none⟩=some (.bool l):=by rw[cell_of_row _ _ _ _ _ _ a];rfl
 have e1:K.cell? ⟨d,1,none⟩=some (.int .i64 ik):=by rw[cell_of_row _ _ _ _ _ _ a];rfl
 have e2:K.cell? ⟨d,2,none⟩=some (Sv XV):=by rw[cell_of_row _ _ _ _ _ _ a];rfl
 have e3:K.cell? ⟨d,3,none⟩=some (.int .i64 it):=by rw[cell_of_row _ _ _ _ _ _ a];rfl
 have e4:K.cell? ⟨d,4,none⟩=some (.int .i64 iv):=by rw[cell_of_row _ _ _ _ _ _ a];rfl
 have e5:K.cell? ⟨d,5,none⟩=some (Sv wk):=by rw[cell_of_row _ _ _ _ _ _ a];rfl
 have e6:K.cell? ⟨d,6,none⟩=some (.int .i64 wl):=by rw[cell_of_row _ _ _ _ _ _ a];rfl
 have e7:K.cell? ⟨d,7,none⟩=some (.int .i64 wh):=by rw[cell_of_row _ _ _ _ _ _ a];rfl
 have e8:K.cell? ⟨d,8,none⟩=some (.int .i64 r):=by rw[cell_of_row _ _ _ _ _ _ a];rfl
 have e9:K.cell? ⟨d,9,none⟩=some (.slice ta n tc):=by rw[cell_of_row _ _ _ _ _ _ a];rfl
 clear Y Z al a;have ac:=m.out.2.2.2.2.1 K H2.out.1;rw[uM.out,<-HN.out.1]at ac;go_wp2_with fail;refine ac.mono ?_;clear ac;rintro e E ⟨rfl,ad⟩;have b:=(ad.block d (Array.getElem?_eq_some_iff.1 H2.out.2.1).1).trans H2.out.2.1;have S:=Lh (bfy (H2.out.1.trans (ad.mono H2.out.1.size)) b);clear I e1 e2 e3 e4 e5 e6 e7 e8 e9 ad;have I:E.cell? ⟨d,0,none⟩=some (.bool l):=by rw[cell_of_row _ _ _ _ _ _ b];rfl
 have e1:E.cell? ⟨d,1,none⟩=some (.int .i64 ik):=by rw[cell_of_row _ _ _ _ _ _ b];rfl
 have e2:E.cell? ⟨d,2,none⟩=some (Sv XV):=by rw[cell_of_row _ _ _ _ _ _ b];rfl
 have e3:E.cell? ⟨d,3,none⟩=some (.int .i64 it):=by rw[cell_of_row _ _ _ _ _ _ b];rfl
 have e4:E.cell? ⟨d,4,none⟩=some (.int .i64 iv):=by rw[cell_of_row _ _ _ _ _ _ b];rfl
 have e5:E.cell? ⟨d,5,none⟩=some (Sv wk):=by rw[cell_of_row _ _ _ _ _ _ b];rfl
 have e6:E.cell? ⟨d,6,none⟩=some (.int .i64 wl):=by rw[cell_of_row _ _ _ _ _ _ b];rfl
 have e7:E.cell? ⟨d,7,none⟩=some (.int .i64 wh):=by rw[cell_of_row _ _ _ _ _ _ b];rfl
 have e8:E.cell? ⟨d,8,none⟩=some (.int .i64 r):=by rw[cell_of_row _ _ _ _ _ _ b];rfl
 have e9:E.cell? ⟨d,9,none⟩=some (.slice ta n tc):=by rw[cell_of_row _ _ _ _ _ _ b];rfl
 clear b;dsimp only
 cases rt with
 | false=>
  have HQ:Hid (qI s=(qj,false)):=by
   unfold qI;rw[<-m.out.1,<-HN.out.1,if_neg (by simp)]
   exact Lh rfl
  have ae:=Lh (bfy (m.out.2.2.2.1.trans (S.out.1.mono m.out.2.2.2.1.size)) (m.out.2.2.1.below S.out.1));go_upto_region 3 with fail;refine bg4 ?_;refine bV (by kernel_rfl) 37 _ rfl dD.cells (by simp only[bgb,bge];exact qp) ?_
  refine bg6 rfl _ _ _ rfl D dD.cells rfl rfl 37 dD.cells ae.out.2 fE rfl (jl _) ?_;have N:=fH.reset ae.out.2 dD;have O:Bw w (E.setRow D dD.cells):=below_setRow ae.out.1 (by rw[J.out.2.1];exact bfx _) _
  obtain⟨w9,q⟩:=Nm (E.setRow D dD.cells);rw[<-q]at N O ⊢;have H9:=Lh (bfy N O);clear N O q;go_wp2_with fail;refine bodyPost_ret (v:=.tuple #[.agg dD.cells,.bool false]) (bI (p:=2) (u:=3) (ty:=37) rfl _ _ D 37 _ (0,0) _ rfl H9.out.1 underlying37 rfl fE) rfl ?_;rw[J.out.2.2.2.2.2.2.2];refine⟨dD,?_,?_,bC.nil _,H9.out.2⟩ <;> rw[HQ.out] <;> rfl
 | true=>
  have Q:=m.out.2.2.2.2.2 E S.out.1 ((λ(h:nT E)=>(⟨h.1,h.2.1,h.2.2⟩:lC E)) (J.out.2.2.2.2.1.below (m.out.2.2.2.1.trans (S.out.1.mono m.out.2.2.2.1.size))));rw[uM.out,<-HN.out.2]at Q;by_cases y:td=s
  ·have HQ:Hid (qI s=(X.o,true)):=by
    unfold qI;rw[<-m.out.1,<-HN.out.1,<-HN.out.2,if_pos ⟨rfl,y⟩];exact Lh rfl
   have hq:∀F,(binOp .neq 9 (Sv td) (Sv s)).run prog F=.ok (.bool false) F:=λF=>by rw[run_neq_Sv,bfr y];rfl
   have an:=Lh y;clear y;go_wp2_with fail;refine Q.mono ?_;clear Q;rintro e z ⟨rfl,L⟩;have c:=(L.block d (Array.getElem?_eq_some_iff.1 S.out.2).1).trans S.out.2;have Y4:=S.out.1.trans (L.mono S.out.1.size);have j:=Lh (bfy (m.out.2.2.2.1.trans (Y4.mono m.out.2.2.2.1.size)) (bfy (m.out.2.2.1.below Y4) (m.out.2.1.below Y4)));clear I e1 e2 e3 e4 e5 e6 e7 e8 e9 L Y4;have I:z.cell? ⟨d,0,none⟩=some (.bool l):=by rw[cell_of_row _ _ _ _ _ _ c];rfl
   have e1:z.cell? ⟨d,1,none⟩=some (.int .i64 ik):=by rw[cell_of_row _ _ _ _ _ _ c];rfl
   have e2:z.cell? ⟨d,2,none⟩=some (Sv XV):=by rw[cell_of_row _ _ _ _ _ _ c];rfl
   have e3:z.cell? ⟨d,3,none⟩=some (.int .i64 it):=by rw[cell_of_row _ _ _ _ _ _ c];rfl
   have e4:z.cell? ⟨d,4,none⟩=some (.int .i64 iv):=by rw[cell_of_row _ _ _ _ _ _ c];rfl
   have e5:z.cell? ⟨d,5,none⟩=some (Sv wk):=by rw[cell_of_row _ _ _ _ _ _ c];rfl
   have e6:z.cell? ⟨d,6,none⟩=some (.int .i64 wl):=by rw[cell_of_row _ _ _ _ _ _ c];rfl
   have e7:z.cell? ⟨d,7,none⟩=some (.int .i64 wh):=by rw[cell_of_row _ _ _ _ _ _ c];rfl
   have e8:z.cell? ⟨d,8,none⟩=some (.int .i64 r):=by rw[cell_of_row _ _ _ _ _ _ c];rfl
   have e9:z.cell? ⟨d,9,none⟩=some (.slice ta n tc):=by rw[cell_of_row _ _ _ _ _ _ c];rfl
   clear c;dsimp only;go_upto_region 4 with fail;refine bg4 ?_
   iterate 3 go_step
   refine bg6 rfl _ _ _ rfl D X.cells rfl (by rw[uM.out];rfl) 37 dD.cells j.out.2.1 fE rfl (jl _) ?_
   have N:=j.out.2.1.reset X;have O:Bw w (z.setRow D X.cells):=below_setRow j.out.1 (by rw[J.out.2.1];exact bfx _) _
   have af:dL (z.setRow D X.cells) X:=bC.grown j.out.2.2 (bD _ _ _) (λa' n' c' e am=>by
    obtain⟨a0,c0,I,_,h0⟩:=j.out.2.2;rcases h0 with⟨_,h0⟩ | ⟨b0,o0,ao,R,_⟩
    ·exact absurd h0 am
    rcases R with R | ⟨ap,R⟩
    ·exact absurd R am
    rw[e]at I;injection I with I _ _
    rw[ao]at I;injection I with I
    rw[I];exact Gq R j.out.2.1 (by decide))
   obtain⟨w9,q⟩:=Nm (z.setRow D X.cells);rw[<-q]at N O af ⊢;have H9:=Lh (bfy N (bfy O af));clear N O af q I e1 e2 e3 e4 e5 e6 e7 e8 e9;go_wp2_with fail;refine bodyPost_ret (v:=.tuple #[.agg X.cells,.bool true]) (bI (p:=2) (u:=3) (ty:=37) rfl _ _ D 37 _ (0,0) _ rfl H9.out.1 underlying37 rfl fE) rfl ?_;rw[J.out.2.2.2.2.2.2.2];refine⟨X,?_,?_,H9.out.2.2,H9.out.2.1⟩ <;> rw[HQ.out]
  ·have HQ:Hid (qI s=(qj,false)):=by
    unfold qI;rw[<-m.out.1,<-HN.out.1,<-HN.out.2,if_neg (λh=>y h.2)];exact Lh rfl
   have hq:∀F,(binOp .neq 9 (Sv td) (Sv s)).run prog F=.ok (.bool true) F:=λF=>by rw[run_neq_Sv,bfq y];rfl
   have an:=Lh y;clear y;go_wp2_with fail;refine Q.mono ?_;clear Q;rintro e z ⟨rfl,L⟩;have Y4:=S.out.1.trans (L.mono S.out.1.size);have j:=Lh (bfy (m.out.2.2.2.1.trans (Y4.mono m.out.2.2.2.1.size)) (m.out.2.2.1.below Y4));clear I e1 e2 e3 e4 e5 e6 e7 e8 e9 L Y4;dsimp only;go_upto_region 3 with fail;refine bg4 ?_;refine bV (by kernel_rfl) 37 _ rfl dD.cells (by simp only[bgb,bge];exact qp) ?_
   refine bg6 rfl _ _ _ rfl D dD.cells rfl rfl 37 dD.cells j.out.2 fE rfl (jl _) ?_;have N:=fH.reset j.out.2 dD;have O:Bw w (z.setRow D dD.cells):=below_setRow j.out.1 (by rw[J.out.2.1];exact bfx _) _
   obtain⟨w9,q⟩:=Nm (z.setRow D dD.cells);rw[<-q]at N O ⊢;have H9:=Lh (bfy N O);clear N O q;go_wp2_with fail;refine bodyPost_ret (v:=.tuple #[.agg dD.cells,.bool false]) (bI (p:=2) (u:=3) (ty:=37) rfl _ _ D 37 _ (0,0) _ rfl H9.out.1 underlying37 rfl fE) rfl ?_;rw[J.out.2.2.2.2.2.2.2];refine⟨dD,?_,?_,bC.nil _,H9.out.2⟩ <;> rw[HQ.out] <;> rfl
def TapeL.nums:Nat->TapeL->List Int × TapeL
 | 0,t=>([],t)
 | n+1,t=>((TapeL.nums n t).1++[(TapeL.nums n t).2.signed.1],(TapeL.nums n t).2.signed.2)
def TapeL.pW(t:TapeL):dE × TapeL:=
 if (t.number 1).1=0 then (⟨true,(t.number 1).2.item.1,bF,0,[]⟩,(t.number 1).2.item.2)
 else if (t.number 1).1=1 then
  (⟨false,zeroI,(t.number 1).2.window.1,((t.number 1).2.window.2.number 1073741824).1,(TapeL.nums (((t.number 1).2.window.2.number 1073741824).2.number 8).1.toNat (((t.number 1).2.window.2.number 1073741824).2.number 8).2).1⟩,
   (TapeL.nums (((t.number 1).2.window.2.number 1073741824).2.number 8).1.toNat (((t.number 1).2.window.2.number 1073741824).2.number 8).2).2)
 else (qj,(t.number 1).2)
def TapeL.JC(x:dE)(t:TapeL):TapeL:=if x.rightB=true then t else t.fail 11
def TapeL.out(t:TapeL):dE × TapeL:=(if (TapeL.JC t.pW.1 t.pW.2).e=0 then t.pW.1 else qj,TapeL.JC t.pW.1 t.pW.2)
theorem nums_length(n:Nat)(t:TapeL):(TapeL.nums n t).1.length=n:=by
 induction n with
 | zero=>rfl
 | succ n ih=>simp[TapeL.nums,ih]
theorem yj(t:TapeL):(t.fail 11).e≠0:=by
 unfold TapeL.fail
 split
 ·decide
 rename_i h;intro a;exact h ⟨a,by decide⟩
theorem item_key(t:TapeL):t.item.1.key.length<=16:=by
 unfold TapeL.item;obtain⟨x,c⟩:=Nm (t.item0.1);simp only[<-c]
 split
 ·rename_i h
  cases hr:x.rightB with
  | false=>
   unfold TapeL.last at h;rw[hr]at h;exact absurd h (yj _)
  | true=>
   clear c h;obtain⟨d,key,e,b⟩:=x;obtain⟨_,a⟩:=right_cases hr;rcases a with⟨_,a,_⟩ | ⟨_,_,_,a,_⟩
   ·simp only at a ⊢;rw[a];exact bgi _
   exact a
 exact bgi _
theorem Ci(t:TapeL):t.window.1.key.length<=16:=by
 unfold TapeL.window;obtain⟨x,a⟩:=Nm (t.Nz.1);simp only[<-a]
 split
 ·rename_i h
  cases hr:x.rightB with
  | false=>
   unfold TapeL.nK at h;rw[hr]at h;exact absurd h (yj _)
  | true=>exact(bU hr).2.2.1
 exact bgi _
theorem TM(t:TapeL):t.pW.1.item.key.length<=1000000/\t.pW.1.w.key.length<=1000000/\t.pW.1.v.length<=1000000:=by
 unfold TapeL.pW
 split
 ·exact⟨bgn (item_key _) (by decide),bgi _,bgi _⟩
 split
 ·refine⟨bgi _,bgn (Ci _) (by decide),?_⟩
  simp only[nums_length];have:=number_range ((t.number 1).2.window.2.number 1073741824).2 8 (by decide)
  omega
 exact⟨bgi _,bgi _,bgi _⟩
structure Dh(w:World)(base b rb ob:Nat)(o:dE)(tv:Value)(t:TapeL)(wr:World):Prop where
 row:∃ht,fH wr ob ⟨o,tv,ht⟩
 own:gV wr w.heap.size tv o.v
 res:fH wr rb dD
 rd:RdAt base wr b t
 grown:w.grownBy wr (some b)
 low:b<w.heap.size/\w.heap.size<=rb/\rb<ob/\base<=w.heap.size
section
variable {w wr w' : World} {base b rb ob : Nat} {o o' : dE} {tv : Value} {t t' : TapeL}
theorem Dh.read(h:Dh w base b rb ob o tv t wr)(n:RdAt base w' b t')(d:wr.grownBy w' (some b)):Dh w base b rb ob o tv t' w':=by
 obtain⟨⟨p,a⟩,m,c,q,j,l⟩:=h;refine⟨⟨p,a.grown d (by simp;omega)⟩,?_,c.grown d (by simp;omega),n,j.trans d,l⟩
 refine m.kept d ?_
 cases e:tv.ownBlock with
 | none=>exact .inl rfl
 | some k=>
  right
  intro r;cases r
  have:=(Own.lt m e).1;omega
theorem Dh.below(h:Dh w base b rb ob o tv t wr)(a:Bw wr w'):Dh w base b rb ob o tv t w':=
 ⟨h.row.imp λ_ k=>k.below a,Own.far h.own a,h.res.below a,h.rd.below a,h.grown.trans ⟨a.os,a.tape,a.output,a.size,λk c _=>a.block k c⟩,h.low⟩
theorem Dh.put(h:Dh w base b rb ob o tv t wr)(a:∀k,k≠ob->w'.heap[k]? =wr.heap[k]?)(q:w'.heap.size=wr.heap.size)(r:w'.os=wr.os)(s:w'.tape=wr.tape)(u:w'.output=wr.output)
  (l:∃F,fH w' ob ⟨o',tv,F⟩) (I:o'.v=o.v):Dh w base b rb ob o' tv t w':=by
 obtain⟨⟨F,d⟩,x,m,y,c,z⟩:=h;refine⟨l,?_,(a rb (by omega)).trans m,y.same (a b (by omega)) (λk _ _ _=>a k (by omega)),⟨r.trans c.os,s.trans c.tape,u.trans c.output,by rw[q];exact c.size,λk J j=>(a k (by omega)).trans (c.block k J j)⟩,z⟩
 rw[I];refine⟨x.1,?_⟩;have j:=qH x d (by decide)
 rcases x.2 with e | ⟨g,D,E,n,K,L,p⟩
 ·exact .inl e
 exact .inr ⟨g,D,E,n,K,(a g λe=>j (by rw[n,e];rfl)).trans L,p⟩
theorem Dh.push {l:World}(h:Dh w base b rb ob o tv t l):(∀a,gV (l.alloc a) w.heap.size tv o.v)/\(∀x,(l.alloc (.cells #[x] 3)).cell? ⟨l.heap.size,0,none⟩=some x)/\(∀a,w.heap.size<=(l.alloc a).heap.size)/\
  (∀a m,(l.alloc a).grownBy m tv.ownBlock->(∃M,fH m ob ⟨o,tv,M⟩)/\
   ∀z D E y,gV m w.heap.size (.slice z D E) y->Dh w base b rb ob ⟨o.late,o.item,o.w,o.r,y⟩ (.slice z D E) t (m.setCell ⟨ob,9,none⟩ (.slice z D E))):=by
 have d:∀a,Bw l (l.alloc a):=λa=>(Below.refl _ l).alloc (bfx _) a;obtain⟨⟨M,n⟩,L,p,N,c,O⟩:=h;refine⟨λa=>Own.far L (d a),λx=>by rw[cell_of_row _ _ _ _ _ _ (bg5 l _)];rfl,λa=>bgn c.size (d a).size,λa m F=>?_⟩
 have u:∀k,k<l.heap.size->tv.ownBlock≠some k->m.heap[k]? =l.heap[k]? :=λk u q=>by
  rw[F.block k (Nat.lt_of_lt_of_le u (d a).size) (λe=>q e.symm)];exact(d a).block k u
 have Q:=(u ob n.lt (qH L n (by decide))).trans n
 have Ua:fH m rb dD:=(u rb p.lt (qH L p (by decide))).trans p
 have R:l.heap.size<=m.heap.size:=bgn (d a).size F.size;have s:∀k,k<w.heap.size->m.heap[k]? =l.heap[k]? :=λk I=>u k (Nat.lt_of_lt_of_le I c.size) λe=>by have:=(Own.lt L e).1;omega
 refine⟨⟨M,Q⟩,λz D E y S=>?_⟩;have j:∀k,k≠ob->(m.setCell ⟨ob,9,none⟩ (.slice z D E)).heap[k]? =m.heap[k]? :=λk u=>heap_setCell_other _ _ _ _ (show k≠ob from u);have U:(m.setCell ⟨ob,9,none⟩ (.slice z D E)).heap.size=m.heap.size:=by simp[World.setCell]
 refine⟨⟨rfl,(heap_setCell_same m ob 9 _ _ _ Q).trans rfl⟩,?_,(j rb (by omega)).trans Ua,N.same ((j b (by omega)).trans (s b (by omega))) (λk I _ _=>(j k (by omega)).trans (s k (by omega))),?_,O⟩
 ·refine⟨S.1,?_⟩;have q:=qH S Q (by decide)
  rcases S.2 with e | ⟨g,Y,Z,hv,h1,c,J⟩
  ·exact .inl e
  refine .inr ⟨g,Y,Z,hv,h1,(j g λe=>q ?_).trans c,J⟩;rw[hv,e];rfl
 exact⟨(F.os.trans (d a).os).trans c.os,(F.tape.trans (d a).tape).trans c.tape,(F.output.trans (d a).output).trans c.output,by rw[U];exact bgn c.size R,λk K q=>((j k (by omega)).trans (s k K)).trans (c.block k K q)⟩
theorem Dh.ended(h:Dh w base b rb ob o tv t wr)(y:bH)(u:bC wr y.tv y.o.v):fH (wr.setRow rb y.cells) rb y/\dL (wr.setRow rb y.cells) y/\RdAt base (wr.setRow rb y.cells) b t/\w.grownBy (wr.setRow rb y.cells) (some b):=by
 obtain⟨⟨E,x⟩,F,l,n,a,z⟩:=h;have c:∀k,k≠rb->(wr.setRow rb y.cells).heap[k]? =wr.heap[k]? :=λk p=>setRow_other wr rb k _ p;have q:(wr.setRow rb y.cells).heap.size=wr.heap.size:=by simp[World.setRow]
 refine⟨l.reset y,bC.grown u (bD _ _ _) (λI J K e j=>?_),n.same (c b (by omega)) (λk _ _ _=>c k (by omega)),⟨a.os,a.tape,a.output,by rw[q];exact a.size,λk p j=>(c k (by omega)).trans (a.block k p j)⟩⟩
 obtain⟨L,c0,m,_,r⟩:=u;rcases r with⟨_,r⟩ | ⟨M,N,s,d,_⟩
 ·exact absurd r j
 rcases d with d | ⟨D,d⟩
 ·exact absurd d j
 rw[e]at m;injection m with m _ _
 rw[s]at m;injection m with m
 rw[m];exact Gq d l (by decide)
end
theorem SE(w:World)(d b:Nat)(t:TapeL)(h:RdAt d w b t)(hb:d<=w.heap.size):
    Calls prog 27 #[.pointer (some ⟨b,0,none⟩)] w (λe w'=>∃x:bH,x.o=t.out.1/\e=.returned (.agg x.cells)/\dL w' x/\RdAt d w' b t.out.2/\w.grownBy w' (some b)):=by
  obtain⟨P,hP⟩:∃P:Ending->World->Prop,P=(λe w'=>∃x:bH,x.o=t.out.1/\e=.returned (.agg x.cells)/\dL w' x/\RdAt d w' b t.out.2/\w.grownBy w' (some b)):=⟨_,rfl⟩;rw[<-hP];have HP:=Lh hP;clear hP;obtain⟨w0,aa⟩:=Nm ((w.alloc (.cells #[.bool false,.int .i64 0,.string ⟨#[]⟩,.int .i64 0,.int .i64 0,.string ⟨#[]⟩,.int .i64 0,.int .i64 0,.int .i64 0,.slice none 0 0] 37)).alloc (.cells #[.bool false,.int .i64 0,.string ⟨#[]⟩,.int .i64 0,.int .i64 0,.string ⟨#[]⟩,.int .i64 0,.int .i64 0,.int .i64 0,.slice none 0 0] 37));obtain⟨R,ah⟩:=Nm (w.heap.size);obtain⟨a,ai⟩:=Nm (w.heap.size+1);have F:(w.alloc (.cells #[.bool false,.int .i64 0,.string ⟨#[]⟩,.int .i64 0,.int .i64 0,.string ⟨#[]⟩,.int .i64 0,.int .i64 0,.int .i64 0,.slice none 0 0] 37)).heap.size=w.heap.size+1:=bg w _;have Y:Bw w w0:=by rw[aa];exact((Below.refl _ w).alloc (bfx _) _).alloc (by rw[F];omega) _
  have h0:Dh w d b R a qj bM t w0:=by
    refine⟨⟨rfl,?_⟩,Own.nil _ _ _,?_,h.below Y,⟨Y.os,Y.tape,Y.output,Y.size,λk D _=>Y.block k D⟩,h.lt,by omega,by omega,hb⟩
    · show w0.heap[a]? =_;rw[aa,ai,<-F];exact bg5 _ _
    · show w0.heap[R]? =_;rw[aa,ah,heap_alloc_old _ _ (by rw[F];omega)]
      exact bg5 _ _
  have HK:=Lh (bfy aa (bfy ah (bfy ai (bfy F h0))));clear aa ah ai Y h0 h hb F;go_enter func27,ntmps27;go_upto_region 2 with fail;rw[<-HK.out.1,<-HK.out.2.2.1,<-HK.out.2.1];go_wp2_with fail;refine(rnumber_any w0 d b t 1 HK.out.2.2.2.2.rd).mono ?_;rintro e w1 ⟨rfl,an,ao⟩;have H1:=Lh (HK.out.2.2.2.2.read an ao);have o7:=number_range t 1 (by decide)
  obtain⟨k,D⟩:=Nm ((t.number 1).1);obtain⟨S,aj⟩:=Nm ((t.number 1).2);have XR:t.pW=if k=0 then (⟨true,S.item.1,bF,0,[]⟩,S.item.2)
      else if k=1 then (⟨false,zeroI,S.window.1,(S.window.2.number 1073741824).1,(TapeL.nums ((S.window.2.number 1073741824).2.number 8).1.toNat ((S.window.2.number 1073741824).2.number 8).2).1⟩,(TapeL.nums ((S.window.2.number 1073741824).2.number 8).1.toNat ((S.window.2.number 1073741824).2.number 8).2).2)
      else (qj,S):=by
    rw[D,aj];rfl
  rw[<-D]at o7 ⊢;rw[<-aj]at H1;have HO:=Lh (bfy XR o7);clear an ao D aj XR;dsimp only;go_upto_block 0 with fail;go_cut[]from 6 to 31 (λwx=>∃tv,Dh w d b R a t.pW.1 tv t.pW.2 wx)
  case first=>
    have aT:k=0∨k=1:=by omega
    clear o7;rcases aT with rfl | rfl
    · have U:=HO.out.1;rw[if_pos rfl]at U;obtain⟨⟨⟨ik,XV,it,iv⟩,t2⟩,hit⟩:=Nm (S.item);have z:=λw' (h:RdAt d w' b S) (hs:d<=w'.heap.size)=>eget_any w' d b S h hs;rw[<-hit]at U z;simp only at U z;have I:=Lh (bfy U z);obtain⟨⟨ht,l⟩,-,-,-,-,-⟩:=id H1.out;have c0:w1.cell? ⟨a,0,none⟩=some (.bool false):=by rw[cell_of_row _ _ _ _ _ _ l];rfl
      have f0:=frozen_of_row w1 a 0 _ _ l;have ap:Dh w d b R a ⟨true,zeroI,bF,0,[]⟩ bM S (w1.setCell ⟨a,0,none⟩ (.bool true)):=
        H1.out.put (λk D=>heap_setCell_other _ _ _ _ (show k≠a from D)) (by simp[World.setCell]) rfl rfl rfl ⟨rfl,(heap_setCell_same w1 a 0 _ _ _ l).trans rfl⟩ rfl
      have s:=Lh ap;clear l U z hit ap;go_upto_region 5 with fail;obtain⟨w2,ar⟩:=Nm (w1.setCell ⟨a,0,none⟩ (.bool true));rw[<-ar]at s ⊢;clear ar c0 f0;go_wp2_with fail;refine(I.out.2 w2 s.out.rd (bgn s.out.low.2.2.2 s.out.grown.size)).mono ?_;rintro e y ⟨rfl,J,K⟩;have aF:=Lh (s.out.read J K);clear J K;obtain⟨⟨aU,c⟩,-,-,-,-,-⟩:=id aF.out;have c1:y.cell? ⟨a,1,none⟩=some (.int .i64 0):=by rw[cell_of_row _ _ _ _ _ _ c];rfl
      have f1:=frozen_of_row y a 1 _ _ c;have c2:y.cell? ⟨a,2,none⟩=some (.string ⟨#[]⟩):=by rw[cell_of_row _ _ _ _ _ _ c];rfl
      have f2:=frozen_of_row y a 2 _ _ c;have c3:y.cell? ⟨a,3,none⟩=some (.int .i64 0):=by rw[cell_of_row _ _ _ _ _ _ c];rfl
      have f3:=frozen_of_row y a 3 _ _ c;have c4:y.cell? ⟨a,4,none⟩=some (.int .i64 0):=by rw[cell_of_row _ _ _ _ _ _ c];rfl
      have f4:=frozen_of_row y a 4 _ _ c;have aV:=Lh c;clear c;unfold ItemL.cells;dsimp only;go_wp2_with fail;go_meet;rw[I.out.1];refine⟨bM,aF.out.put (λk D=>?_) (by simp[World.setCell]) rfl rfl rfl ⟨rfl,?_⟩ rfl⟩
      · rw[heap_setCell_other _ _ _ _ (show k≠a from D),heap_setCell_other _ _ _ _ (show k≠a from D),heap_setCell_other _ _ _ _ (show k≠a from D),heap_setCell_other _ _ _ _ (show k≠a from D)]
      · show(World.heap _)[a]? =_;rw[heap_setCell_same _ a 4 _ _ _ (heap_setCell_same _ a 3 _ _ _ (heap_setCell_same _ a 2 _ _ _ (heap_setCell_same y a 1 _ _ _ aV.out)))];rfl
    · have U:=HO.out.1;rw[if_neg (by decide),if_pos rfl]at U
      obtain⟨⟨⟨wk,wl,wh⟩,t2⟩,au⟩:=Nm (S.window);have z:=λw' (h:RdAt d w' b S) (hs:d<=w'.heap.size)=>Ko w' d b S h hs;rw[<-au]at U z;simp only at U z;obtain⟨⟨r,t3⟩,av⟩:=Nm (t2.number 1073741824);have ae:=λw' (h:RdAt d w' b t2)=>rnumber_any w' d b t2 1073741824 h;rw[<-av]at U ae;simp only at U ae;obtain⟨⟨n,t4⟩,aw⟩:=Nm (t3.number 8);have o9:=λw' (h:RdAt d w' b t3)=>rnumber_any w' d b t3 8 h;have aS:=number_range t3 8 (by decide)
      rw[<-aw]at U o9 aS;simp only at U o9 aS;obtain⟨N,rfl⟩:∃N:Nat,n=(N:Int):=⟨n.toNat,by omega⟩
      rw[Int.toNat_natCast]at U;have ax:N<=8:=by omega
      have I:=Lh (bfy U (bfy z (bfy ae (bfy o9 ax))));clear U z au av ae aw o9 aS;go_wp2_with fail;refine(I.out.2.1 w1 H1.out.rd (bgn H1.out.low.2.2.2 H1.out.grown.size)).mono ?_;rintro e y ⟨rfl,J,K⟩;have aF:=Lh (H1.out.read J K);clear J K;obtain⟨⟨aU,c⟩,-,-,-,-,-⟩:=id aF.out;have c5:y.cell? ⟨a,5,none⟩=some (.string ⟨#[]⟩):=by rw[cell_of_row _ _ _ _ _ _ c];rfl
      have f5:=frozen_of_row y a 5 _ _ c;have c6:y.cell? ⟨a,6,none⟩=some (.int .i64 0):=by rw[cell_of_row _ _ _ _ _ _ c];rfl
      have f6:=frozen_of_row y a 6 _ _ c;have c7:y.cell? ⟨a,7,none⟩=some (.int .i64 0):=by rw[cell_of_row _ _ _ _ _ _ c];rfl
      have f7:=frozen_of_row y a 7 _ _ c;have ay:Dh w d b R a ⟨false,zeroI,⟨wk,wl,wh⟩,0,[]⟩ bM t2 (((y.setCell ⟨a,5,none⟩ (Sv wk)).setCell ⟨a,6,none⟩ (.int .i64 wl)).setCell ⟨a,7,none⟩ (.int .i64 wh)):=by
        refine aF.out.put (λk D=>?_) (by simp[World.setCell]) rfl rfl rfl ⟨rfl,?_⟩ rfl
        · rw[heap_setCell_other _ _ _ _ (show k≠a from D),heap_setCell_other _ _ _ _ (show k≠a from D),heap_setCell_other _ _ _ _ (show k≠a from D)]
        · show(World.heap _)[a]? =_;rw[heap_setCell_same _ a 7 _ _ _ (heap_setCell_same _ a 6 _ _ _ (heap_setCell_same y a 5 _ _ _ c))];rfl
      have aG:=Lh ay;clear c ay;unfold bf.cells;dsimp only;go_upto_region 8 with fail;obtain⟨E,az⟩:=Nm (((y.setCell ⟨a,5,none⟩ (Sv wk)).setCell ⟨a,6,none⟩ (.int .i64 wl)).setCell ⟨a,7,none⟩ (.int .i64 wh));rw[<-az]at aG ⊢;clear az c5 c6 c7 f5 f6 f7;go_wp2_with fail;refine(I.out.2.2.1 E aG.out.rd).mono ?_;rintro e w5 ⟨rfl,aA,aB⟩;have U9:=Lh (aG.out.read aA aB);clear aA aB;obtain⟨⟨aZ,Ya⟩,-,-,-,-,-⟩:=id U9.out;have c8:w5.cell? ⟨a,8,none⟩=some (.int .i64 0):=by rw[cell_of_row _ _ _ _ _ _ Ya];rfl
      have f8:=frozen_of_row w5 a 8 _ _ Ya;have aC:Dh w d b R a ⟨false,zeroI,⟨wk,wl,wh⟩,r,[]⟩ bM t3 (w5.setCell ⟨a,8,none⟩ (.int .i64 r)):=
        U9.out.put (λk D=>heap_setCell_other _ _ _ _ (show k≠a from D)) (by simp[World.setCell]) rfl rfl rfl ⟨rfl,(heap_setCell_same w5 a 8 _ _ _ Ya).trans rfl⟩ rfl
      have aH:=Lh aC;clear Ya aC;dsimp only;go_upto_region 9 with fail;obtain⟨w6,aD⟩:=Nm (w5.setCell ⟨a,8,none⟩ (.int .i64 r));rw[<-aD]at aH ⊢;clear aD c8 f8;go_wp2_with fail;refine(I.out.2.2.2.1 w6 aH.out.rd).mono ?_;rintro e w7 ⟨rfl,ab,Yx⟩;have aW:=Lh (aH.out.read ab Yx);have ax:=I.out.2.2.2.2;clear ab Yx;dsimp only;go_wp2_with fail;go_loopw[22] (λu wr=>∃i:Nat,i<=N/\u=.int .i64 (i:Int)/\∃tv,Dh w d b R a ⟨false,zeroI,⟨wk,wl,wh⟩,r,(TapeL.nums i t4).1⟩ tv (TapeL.nums i t4).2 wr) (λu _=>N-(intOf u).toNat)
      case atStart=>exact⟨0,bgi _,rfl,bM,aW.out⟩
      case round=>
        obtain⟨i,hi,rfl,tv,hG⟩:=hrel;by_cases aE:i<N
        · have a0:(0:Int)<=(i:Int)/\(i:Int)<N:=by omega
          have aX:=Lh aE;obtain⟨⟨ht,l⟩,hO,-,-,-,-⟩:=id hG;obtain⟨vs,ac⟩:=Nm ((TapeL.nums i t4).1);obtain⟨ti,ak⟩:=Nm ((TapeL.nums i t4).2);have aJ:vs.length<=8:=by rw[ac,nums_length];omega
          have al:(TapeL.nums (i+1) t4).1=vs++[ti.signed.1]/\(TapeL.nums (i+1) t4).2=ti.signed.2:=by
            rw[ac,ak];exact⟨rfl,rfl⟩
          rw[<-ac,<-ak]at hG;rw[<-ac]at hO l;obtain⟨Z,tc,rfl⟩:=hO.form;obtain⟨m,hm⟩:=Nm (vs.length);rw[<-hm]at hG l;have e9:wr.drew.cell? ⟨a,9,none⟩=some (.slice Z m tc):=by
            show wr.cell? _=_;rw[cell_of_row _ _ _ _ _ _ l];rfl
          have aP:=hG.below (w':=wr.drew) ⟨rfl,rfl,rfl,bfx _,λ_ _=>rfl⟩;have Ec:=Lh (rsigned_any wr.drew d b ti aP.rd);obtain⟨nx,aK⟩:=Nm (ti.signed.1);rw[<-aK]at al Ec;have HR:=Lh (bfy aP (bfy al (bfy aJ hm)));clear hG aP l hO ac ak aJ al hm aK;go_upto_region 11 with fail;go_region_law (first
            | (refine vI (v:=.slice Z m tc) (xs:=vs) rfl _ _ rfl rfl (HC.out.1 _) rfl (HC.out.2.1 _) (by have:=HR.out.2.2.1;omega) (HC.out.2.2.1 _) ?_
               intro v' w8 ho hg hv;obtain⟨va,vc,rfl⟩:=ho.form;have h8:=HC.out.2.2.2 _ _ hg;obtain⟨a1,Ah⟩:=h8.1;have e8:w8.cell? ⟨a,9,none⟩=some (.slice Z m tc):=by rw[cell_of_row _ _ _ _ _ _ Ah];rfl
               have f8:=frozen_of_row w8 a 9 _ _ Ah;have HW:=Lh (h8.2 _ _ _ _ ho);clear ho hg hv h8 Ah)
            | (rw[if_pos (by rfl)]
               go_simp;refine Ec.out.mono ?_;rintro e w7 ⟨rfl,ab,Yx⟩;have aO:=HR.out.1.read ab Yx;obtain⟨a2,Yd⟩:=aO.row;have O8:w7.cell? ⟨a,9,none⟩=some (.slice Z m tc):=by rw[cell_of_row _ _ _ _ _ _ Yd];rfl
               have YG:∀o,(w7.alloc o).heap[a]? =w7.heap[a]? :=λo=>heap_alloc_old _ _ Yd.lt;have O7:∀o,(w7.alloc o).cell? ⟨a,9,none⟩=some (.slice Z m tc):=λo=>by rw[cell_of_row _ _ _ _ _ _ ((YG o).trans Yd)];rfl
               have HC:=Lh aO.push;clear ab Yx aO Yd YG;dsimp only))
          all_goals
            have HE:=HW;clear HW HC Ec e9 O8 O7 e8 f8;go_wp2_with fail;have aE:=aX.out;exact⟨⟨i+1,by omega,by go_num,_,by rw[HR.out.2.1.1,HR.out.2.1.2];simpa only[bft,bg0]using HE.out⟩,by simp[intOf];omega⟩
        · obtain rfl:i=N:=by omega
          have HZ:=Lh hG;clear hG;go_wp2_with fail;go_meet;rw[I.out.1];exact⟨tv,HZ.out⟩
  case rest=>
    obtain⟨tv,hG⟩:=hcut;have ag:=TM t;obtain⟨⟨ht,l⟩,hO,-,-,-,-⟩:=id hG;have ad:dL wc ⟨t.pW.1,tv,ht⟩:=gV.ints hO;have hR:=mZ wc ⟨t.pW.1,tv,ht⟩ ad ag;have XR:t.out=(if (TapeL.JC t.pW.1 t.pW.2).e=0 then t.pW.1 else qj,TapeL.JC t.pW.1 t.pW.2):=rfl
    unfold TapeL.JC at XR;obtain⟨⟨o,tx⟩,aL⟩:=Nm (t.pW);rw[<-aL]at hR hG l hO XR;simp only at hR hG l hO XR;obtain⟨Z,tc,rfl⟩:=hO.form;obtain⟨n,hn⟩:=Nm (o.v.length);obtain⟨rt,am⟩:=Nm (o.rightB);rw[<-am]at XR;have af:Calls prog 23 #[.agg (bH.mk o (.slice Z o.v.length tc) ht).cells] wc (Below0 wc (.bool rt)):=by rw[am];exact hR
    obtain⟨X,hX⟩:=Nm (bH.mk o (.slice Z o.v.length tc) ht);rw[<-hX]at af l;have Ut:X.o=o/\X.tv=.slice Z o.v.length tc:=by rw[hX];exact⟨rfl,rfl⟩
    obtain⟨O,Uk⟩:=Nm o;have aM:X.o=O:=by rw[Uk];exact Ut.1
    rw[<-Uk]at XR;clear Uk;obtain⟨L,⟨ik,XV,it,iv⟩,⟨wk,wl,wh⟩,r,v⟩:=o;have ZV:X.cells=#[.bool L,.int .i64 ik,Sv XV,.int .i64 it,.int .i64 iv,Sv wk,.int .i64 wl,.int .i64 wh,.int .i64 r,.slice Z n tc]:=by rw[hX,hn];rfl
    rw[ZV]at af;have q:wc.heap[a]? =some (.cells #[.bool L,.int .i64 ik,Sv XV,.int .i64 it,.int .i64 iv,Sv wk,.int .i64 wl,.int .i64 wh,.int .i64 r,.slice Z n tc] 37 (0,0)):=by rw[<-ZV];exact l
    have HG:=Lh hG;have YJ:=Lh (bfy XR (bfy ZV (bfy Ut (bfy aM hn))));have e0:wc.cell? ⟨a,0,none⟩=some (.bool L):=by rw[cell_of_row _ _ _ _ _ _ q];rfl
    have e1:wc.cell? ⟨a,1,none⟩=some (.int .i64 ik):=by rw[cell_of_row _ _ _ _ _ _ q];rfl
    have e2:wc.cell? ⟨a,2,none⟩=some (Sv XV):=by rw[cell_of_row _ _ _ _ _ _ q];rfl
    have e3:wc.cell? ⟨a,3,none⟩=some (.int .i64 it):=by rw[cell_of_row _ _ _ _ _ _ q];rfl
    have e4:wc.cell? ⟨a,4,none⟩=some (.int .i64 iv):=by rw[cell_of_row _ _ _ _ _ _ q];rfl
    have e5:wc.cell? ⟨a,5,none⟩=some (Sv wk):=by rw[cell_of_row _ _ _ _ _ _ q];rfl
    have e6:wc.cell? ⟨a,6,none⟩=some (.int .i64 wl):=by rw[cell_of_row _ _ _ _ _ _ q];rfl
    have e7:wc.cell? ⟨a,7,none⟩=some (.int .i64 wh):=by rw[cell_of_row _ _ _ _ _ _ q];rfl
    have e8:wc.cell? ⟨a,8,none⟩=some (.int .i64 r):=by rw[cell_of_row _ _ _ _ _ _ q];rfl
    have e9:wc.cell? ⟨a,9,none⟩=some (.slice Z n tc):=by rw[cell_of_row _ _ _ _ _ _ q];rfl
    clear ag l q hO ad hR XR aL hn am hX Ut aM ZV hG;go_wp2_with fail;refine af.mono ?_;clear af;rintro e w2 ⟨rfl,aN⟩;have s:=Lh (HG.out.below aN);clear aN e0 e1 e2 e3 e4 e5 e6 e7 e8 e9;dsimp only
    cases rt with
    | false=>
      have I:Hid (t.out=(qj,tx.fail 11)):=by
        have h:t.out=(qj,tx.fail 11):=by rw[YJ.out.1];simp[yj]
        exact Lh h
      go_wp2_with fail;refine(rfail_any w2 d b tx 11 s.out.rd).mono ?_;rintro e y ⟨rfl,J,K⟩;have aF:=Lh (s.out.read J K);clear J K;dsimp only;go_wp2_with fail;refine(rerr_any y d b _ aF.out.rd).mono ?_;rintro e E ⟨rfl,rfl⟩;have aY:=yj tx;have Ze:=aF;obtain⟨te,M⟩:=Nm ((tx.fail 11).e);rw[<-M]at aY ⊢;clear M;dsimp only;go_upto_region 16 with fail;refine bg4 ?_;refine bV (by kernel_rfl) 37 _ rfl dD.cells (by simp only[bgb,bge];exact qp) ?_
      refine bg6 rfl _ _ _ rfl R dD.cells rfl rfl 37 dD.cells Ze.out.res fE rfl (jl _) ?_;have hE:=Ze.out.ended dD (bC.nil _);obtain⟨w9,Q⟩:=Nm (E.setRow R dD.cells);rw[<-Q]at hE ⊢;have H9:=Lh hE;clear hE Q;go_wp2_with fail;refine bodyPost_ret (v:=.agg dD.cells) (results_cell_row (p:=2) (ty:=37) rfl _ _ R 37 _ (0,0) _ rfl H9.out.1 underlying37 rfl fE) rfl ?_;rw[HP.out];refine⟨dD,?_,rfl,H9.out.2.1,?_,H9.out.2.2.2⟩
      · rw[I.out];rfl
      · rw[I.out];exact H9.out.2.2.1
    | true=>
      go_wp2_with fail;refine(rerr_any w2 d b tx s.out.rd).mono ?_;rintro e E ⟨rfl,rfl⟩;have Ze:=s;obtain⟨te,M⟩:=Nm (tx.e);rw[<-M];by_cases h0:te=0
      · have I:Hid (t.out=(O,tx)):=by
          have h:t.out=(O,tx):=by rw[YJ.out.1];simp[<-M,h0]
          exact Lh h
        clear M;subst h0;obtain⟨⟨a3,j⟩,aQ,-,-,-,-⟩:=id s.out;have j:E.heap[a]? =some (.cells #[.bool L,.int .i64 ik,Sv XV,.int .i64 it,.int .i64 iv,Sv wk,.int .i64 wl,.int .i64 wh,.int .i64 r,.slice Z n tc] 37 (0,0)):=by rw[YJ.out.2.2.2.2];exact j
        have e0:E.cell? ⟨a,0,none⟩=some (.bool L):=by rw[cell_of_row _ _ _ _ _ _ j];rfl
        have e1:E.cell? ⟨a,1,none⟩=some (.int .i64 ik):=by rw[cell_of_row _ _ _ _ _ _ j];rfl
        have e2:E.cell? ⟨a,2,none⟩=some (Sv XV):=by rw[cell_of_row _ _ _ _ _ _ j];rfl
        have e3:E.cell? ⟨a,3,none⟩=some (.int .i64 it):=by rw[cell_of_row _ _ _ _ _ _ j];rfl
        have e4:E.cell? ⟨a,4,none⟩=some (.int .i64 iv):=by rw[cell_of_row _ _ _ _ _ _ j];rfl
        have e5:E.cell? ⟨a,5,none⟩=some (Sv wk):=by rw[cell_of_row _ _ _ _ _ _ j];rfl
        have e6:E.cell? ⟨a,6,none⟩=some (.int .i64 wl):=by rw[cell_of_row _ _ _ _ _ _ j];rfl
        have e7:E.cell? ⟨a,7,none⟩=some (.int .i64 wh):=by rw[cell_of_row _ _ _ _ _ _ j];rfl
        have e8:E.cell? ⟨a,8,none⟩=some (.int .i64 r):=by rw[cell_of_row _ _ _ _ _ _ j];rfl
        have e9:E.cell? ⟨a,9,none⟩=some (.slice Z n tc):=by rw[cell_of_row _ _ _ _ _ _ j];rfl
        have aR:bC E X.tv X.o.v:=by
          rw[YJ.out.2.2.1.1,YJ.out.2.2.1.2];exact gV.ints aQ
        have aI:=Lh aR;clear j aQ aR;dsimp only;go_upto_region 17 with fail;refine bg4 ?_
        iterate 3 go_step
        refine bg6 rfl _ _ _ rfl R X.cells rfl (by rw[YJ.out.2.1];rfl) 37 dD.cells Ze.out.res fE rfl (jl _) ?_
        have hE:=Ze.out.ended X aI.out;obtain⟨w9,Q⟩:=Nm (E.setRow R X.cells);rw[<-Q]at hE ⊢;have H9:=Lh hE;clear hE Q e0 e1 e2 e3 e4 e5 e6 e7 e8 e9;go_wp2_with fail;refine bodyPost_ret (v:=.agg X.cells) (results_cell_row (p:=2) (ty:=37) rfl _ _ R 37 _ (0,0) _ rfl H9.out.1 underlying37 rfl fE) rfl ?_;rw[HP.out];refine⟨X,?_,rfl,H9.out.2.1,?_,H9.out.2.2.2⟩
        · rw[I.out];exact YJ.out.2.2.2.1
        · rw[I.out];exact H9.out.2.2.1
      · have I:Hid (t.out=(qj,tx)):=by
          have h:t.out=(qj,tx):=by rw[YJ.out.1];simp[<-M,h0]
          exact Lh h
        clear M;dsimp only;go_upto_region 16 with fail;refine bg4 ?_;refine bV (by kernel_rfl) 37 _ rfl dD.cells (by simp only[bgb,bge];exact qp) ?_
        refine bg6 rfl _ _ _ rfl R dD.cells rfl rfl 37 dD.cells Ze.out.res fE rfl (jl _) ?_;have hE:=Ze.out.ended dD (bC.nil _);obtain⟨w9,Q⟩:=Nm (E.setRow R dD.cells);rw[<-Q]at hE ⊢;have H9:=Lh hE;clear hE Q;go_wp2_with fail;refine bodyPost_ret (v:=.agg dD.cells) (results_cell_row (p:=2) (ty:=37) rfl _ _ R 37 _ (0,0) _ rfl H9.out.1 underlying37 rfl fE) rfl ?_;rw[HP.out];refine⟨dD,?_,rfl,H9.out.2.1,?_,H9.out.2.2.2⟩
        · rw[I.out];rfl
        · rw[I.out];exact H9.out.2.2.1
theorem PV(w:World)(X:Nat->Prop)(b:Nat)(l:List (BitVec 8))(q:bu)(x:fP)(y z:Value)(h2:q.agg=2)(hr:x.rightB q=true)(hT:bC w y x.top)(hz:dN z x.u x.v)(hP:PenAt X w b l)(hX:∀k,X k->k<w.heap.size)(hl:l.length<=1073700000):
  Calls prog 93 #[.pointer (some ⟨b,0,none⟩),.agg q.cells,.agg (bJ x.n x.a y z)] w (PenEnd X b w ((l++numberL x.n)++signedL x.a) (.bool true)):=by
 have m:=xE hr;have h:=MW hr;have ac:=hP.lt;obtain⟨ta,tc,K,-,-⟩:=id hT;rw[h.2 (by omega)]at K
 have K:y=.slice ta 0 tc:=K;obtain⟨w1,j⟩:=Nm ((w.alloc (.cells q.cells 23)).alloc (.cells (bJ x.n x.a y z) 120));have d:=rG w q x.n x.a y z;rw[<-j]at d;have L:=kM w1 q x y z (hT.below d.2.2) hz (bgn h.1 (by decide))
 rw[hr]at L;have r:(w.alloc (.cells q.cells 23)).heap.size=w.heap.size+1:=bg w _;obtain⟨qb,XW⟩:=Nm (w.heap.size);obtain⟨xb,D⟩:=Nm (w.heap.size+1);have oZ:dB w1 qb q:=by rw[XW];exact d.1
 have E:dA w1 xb x.n x.a y z:=by rw[D];exact d.2.1
 have ad:=m.2.2.2.1;have ae:=Vz q.agg;obtain⟨n,hn⟩:∃n:Nat,x.n=(n:Int):=⟨x.n.toNat,by have:=m.2.1;omega⟩
 have M:n<=1073741824:=by have:=m.2.1;omega
 have F: -9223372036854775808<=x.a/\x.a<=9223372036854775807:=by omega
 obtain⟨k,J⟩:=Nm (x.a);rw[<-J]at F L E j ⊢;rw[hn]at L E j ⊢;have s:numberL (n:Int)=wordL n:=by simp[numberL]
 rw[s];obtain⟨ag,size,af,ah,agg,kq⟩:=q;simp only at h2;subst h2;have c:=Lh (bfy j (bfy XW (bfy D (bfy oZ (bfy E (bfy d.2.2 (bfy L (bfy hP (bfy hX (bfy hl (bfy M (bfy F (bfy r K)))))))))))));clear j XW D d L hP hX hl M F m h ac hn J ad ae s hr hT hz r;subst K;obtain⟨N,O,d2,d3,d4,Q⟩:=c.out.2.2.2.1.d6;obtain⟨e0,e1,e2,e3⟩:=c.out.2.2.2.2.1.d4;simp only at N O d2 d3 d4 Q;have Zn:=c.out.1;unfold bu.cells bJ at Zn ⊢;simp only at Zn;go_enter func93,ntmps93;go_upto_region 1 with fail;rw[<-Zn,<-c.out.2.2.1,<-c.out.2.1];clear Zn;go_wp2_with fail;refine c.out.2.2.2.2.2.2.1.mono ?_;rintro e w2 ⟨rfl,o⟩;have Y3:=c.out.2.2.2.2.2.1.trans (o.mono c.out.2.2.2.2.2.1.size);have I:=Lh (bfy (c.out.2.2.2.1.below o) (bfy (c.out.2.2.2.2.1.below o) (bfy (c.out.2.2.2.2.2.2.2.1.below Y3) (PKept.of_below (X:=X) (b:=b) Y3))));clear o Y3 N O d2 d3 d4 Q e0 e1 e2 e3;obtain⟨N,O,d2,d3,d4,Q⟩:=I.out.1.d6;obtain⟨e0,e1,e2,e3⟩:=I.out.2.1.d4;simp only at N O d2 d3 d4 Q;have R:xb≠b/\qb≠b:=by
  have h1:=c.out.2.2.2.2.2.2.2.1.lt;have h2:=c.out.2.1;have h3:=c.out.2.2.1;omega
 have S:=Lh R;clear R;dsimp only;go_wp2_with fail;refine(pnumber_any w2 X b n l (by have:=c.out.2.2.2.2.2.2.2.2.2.2.1;omega) I.out.2.2.1 (λk J=>Nat.lt_of_lt_of_le (c.out.2.2.2.2.2.2.2.2.1 k J) I.out.2.2.2.size) (by have:=c.out.2.2.2.2.2.2.2.2.2.1;omega)).mono ?_
 rintro e w3 ⟨rfl,U,p⟩;have Y:=p.row I.out.1 (by decide) S.out.2
 have Z:=p.row I.out.2.1 (by decide) S.out.1
 have H3:=Lh (bfy U (I.out.2.2.2.trans p));clear N O d2 d3 d4 Q e0 e1 e2 e3 U p;have d4:w3.cell? ⟨qb,4,none⟩=some (.int .i64 2):=by rw[cell_of_row _ _ _ _ _ _ Y];rfl
 have e1:w3.cell? ⟨xb,1,none⟩=some (.int .i64 k):=by rw[cell_of_row _ _ _ _ _ _ Z];rfl
 clear Y Z;dsimp only;go_wp2_with fail;refine(psigned_any w3 X b k (l++wordL n) c.out.2.2.2.2.2.2.2.2.2.2.2.1.1 (by have:=c.out.2.2.2.2.2.2.2.2.2.2.2.1;omega) H3.out.1 (λk J=>Nat.lt_of_lt_of_le (c.out.2.2.2.2.2.2.2.2.1 k J) H3.out.2.size) (by have h1:=c.out.2.2.2.2.2.2.2.2.2.1;have h2:=wordL_length n;rw[bft];omega)).mono ?_
 rintro e w4 ⟨rfl,aa,ab⟩;have H4:=Lh (bfy aa (H3.out.2.trans ab));clear aa ab;dsimp only;go_wp2_with fail;go_ret;exact⟨rfl,H4.out.1,H4.out.2⟩
def TapeL.PU(t:TapeL):fP × TapeL:=(⟨(t.number 1073741824).1,(t.number 1073741824).2.signed.1,[],0,0⟩,(t.number 1073741824).2.signed.2)
def TapeL.rD(q:bu)(t:TapeL):fP × TapeL:=
 if t.PU.1.rightB q=true then (if t.PU.2.e=0 then t.PU.1 else dY,t.PU.2)else (dY,t.PU.2.fail 11)
structure AtR(w:World)(base b qb rb ob:Nat)(q:bu)(n a:Int)(t:TapeL)(wr:World):Prop where
 rq:dB wr qb q
 res:dA wr rb 0 0 bM dC
 row:dA wr ob n a bM dC
 rd:RdAt base wr b t
 grown:w.grownBy wr (some b)
 low:b<w.heap.size/\w.heap.size<=qb/\qb<rb/\rb<ob/\base<=w.heap.size
theorem AtR.read {w wr w':World} {c b j m o:Nat} {q:bu} {n a:Int} {t p:TapeL}(h:AtR w c b j m o q n a t wr)(u:RdAt c w' b p)(l:wr.grownBy w' (some b)):AtR w c b j m o q n a p w':=by
 obtain⟨r,x,y,D,z,s⟩:=h;have d:∀k,w.heap.size<=k->some k≠some b:=λk E e=>by cases e;omega
 exact⟨(l.block j r.lt (d j s.2.1)).trans r,x.grown l (d m (by omega)),y.grown l (d o (by omega)),u,z.trans l,s⟩
theorem AtR.below {w wr w':World} {d b e j l:Nat} {q:bu} {n a:Int} {t:TapeL}(h:AtR w d b e j l q n a t wr)(c:Bw wr w'):AtR w d b e j l q n a t w':=
 ⟨h.rq.below c,h.res.below c,h.row.below c,h.rd.below c,h.grown.trans ⟨c.os,c.tape,c.output,c.size,λk m _=>c.block k m⟩,h.low⟩
theorem Vq(n:Int):prog.built 120 [(0,.int .i64 n)]=some (bJ n 0 bM dC):=by kernel_rfl
theorem Dj:prog.built 120 []=some zeroC:=by kernel_rfl
theorem AtR.ended {w wr:World} {j b u e x:Nat} {q:bu} {n a:Int} {t:TapeL}(h:AtR w j b u e x q n a t wr)(l m:Int):dA (wr.setRow e (bJ l m bM dC)) e l m bM dC/\RdAt j (wr.setRow e (bJ l m bM dC)) b t/\w.grownBy (wr.setRow e (bJ l m bM dC)) (some b):=by
 obtain⟨z,y,D,o,c,E⟩:=h;have d:∀k,k≠e->(wr.setRow e (bJ l m bM dC)).heap[k]? =wr.heap[k]? :=λk p=>setRow_other wr e k _ p;have r:(wr.setRow e (bJ l m bM dC)).heap.size=wr.heap.size:=by simp[World.setRow]
 exact⟨setRow_heap wr e _ _ _ _ y,o.same (d b (by omega)) (λk _ _ _=>d k (by omega)),⟨c.os,c.tape,c.output,by rw[r];exact c.size,λk p s=>(d k (by omega)).trans (c.block k p s)⟩⟩
theorem AtR.set {w wr:World} {e b m o l:Nat} {q:bu} {n a:Int} {t:TapeL}(h:AtR w e b m o l q n a t wr)(k:Int):AtR w e b m o l q n k t (wr.setCell ⟨l,1,none⟩ (.int .i64 k)):=by
 obtain⟨x,y,z,p,d,D⟩:=h;have c:∀j,j≠l->(wr.setCell ⟨l,1,none⟩ (.int .i64 k)).heap[j]? =wr.heap[j]? :=λj r=>heap_setCell_other _ _ _ _ (show j≠l from r);have s:(wr.setCell ⟨l,1,none⟩ (.int .i64 k)).heap.size=wr.heap.size:=by simp[World.setCell]
 exact⟨(c m (by omega)).trans x,(c o (by omega)).trans y,(heap_setCell_same wr l 1 _ _ _ z).trans rfl,p.same (c b (by omega)) (λj _ _ _=>c j (by omega)),⟨d.os,d.tape,d.output,by rw[s];exact d.size,λj r u=>(c j (by omega)).trans (d.block j r u)⟩,D⟩
def sJ(base b:Nat)(w:World)(q:bu)(t:TapeL)(e:Ending)(w':World):Prop:=
 e=.returned (.agg (bJ (t.rD q).1.n (t.rD q).1.a bM dC))/\RdAt base w' b (t.rD q).2/\w.grownBy w' (some b)
theorem PT(w:World)(a b:Nat)(t:TapeL)(q:bu)(h2:q.agg=2)(hq:q.rightB=true)(h:RdAt a w b t)(hb:a<=w.heap.size):
  Calls prog 139 #[.pointer (some ⟨b,0,none⟩),.agg q.cells] w (sJ a b w q t):=by
 obtain⟨P,hP⟩:=Nm (sJ a b w q t:Ending->World->Prop);rw[<-hP];have HP:=Lh hP;clear hP;obtain⟨w0,s⟩:=Nm ((w.alloc (.cells #[.int .i64 q.kind,.int .i64 q.size,.int .i64 q.slide,.int .i64 q.late,.int .i64 q.agg,.int .i64 q.k] 23)).alloc (.cells #[.int .i64 0,.int .i64 0,.slice none 0 0,.complex .f64 0 0] 120));obtain⟨K,XW⟩:=Nm (w.heap.size);obtain⟨m,L⟩:=Nm (w.heap.size+1);have I:(w.alloc (.cells #[.int .i64 q.kind,.int .i64 q.size,.int .i64 q.slide,.int .i64 q.late,.int .i64 q.agg,.int .i64 q.k] 23)).heap.size=w.heap.size+1:=bg w _;have o:=rG w q 0 0 bM dC;have Zl:dB w0 K q:=by rw[s,XW];exact o.1
 have ab:dA w0 m 0 0 bM dC:=by rw[s,L];exact o.2.1
 have M:Bw w w0:=by rw[s];exact o.2.2
 have N:=kS w0 q;rw[hq]at N;have j:=Lh (bfy s (bfy XW (bfy L (bfy Zl (bfy ab (bfy M (bfy N (bfy (h.below M) (bfy h.lt (bfy hb (bfy I (bfy h2 hq))))))))))));have HC:Hid (q.cells=#[.int .i64 q.kind,.int .i64 q.size,.int .i64 q.slide,.int .i64 q.late,.int .i64 q.agg,.int .i64 q.k]):=Lh rfl;have HD:Hid (∀w',dB w' K q->D6 w' K q.kind q.size q.slide q.late q.agg q.k):=Lh (λw' h=>h.d6);show Calls prog 139 #[.pointer (some ⟨b,0,none⟩),.agg #[.int .i64 q.kind,.int .i64 q.size,.int .i64 q.slide,.int .i64 q.late,.int .i64 q.agg,.int .i64 q.k]] w P;clear s XW L o Zl ab M N h hb I h2 hq;go_enter func139,ntmps139;go_upto_region 1 with fail;rw[<-j.out.1,<-j.out.2.2.1,<-j.out.2.1];obtain⟨d0,d1,d2,d3,d4,d5⟩:=HD.out _ j.out.2.2.2.1;go_wp2_with fail;refine j.out.2.2.2.2.2.2.1.mono ?_;rintro e w1 ⟨rfl,u⟩;have z:=Lh (bfy (j.out.2.2.2.1.below u) (bfy (j.out.2.2.2.2.1.below u) (bfy (j.out.2.2.2.2.2.2.2.1.below u) (j.out.2.2.2.2.2.1.trans (u.mono j.out.2.2.2.2.2.1.size)))));clear u d0 d1 d2 d3 d4 d5;dsimp only;go_wp2_with fail;refine(rnumber_any w1 a b t 1073741824 z.out.2.2.1).mono ?_;rintro e r ⟨rfl,O,D⟩;obtain⟨n,hn⟩:=Nm ((t.number 1073741824).1);obtain⟨t1,Q⟩:=Nm ((t.number 1073741824).2);rw[<-Q]at O;rw[<-hn];have Ae:t.PU=(⟨n,t1.signed.1,[],0,0⟩,t1.signed.2):=by rw[hn,Q];rfl
 have am:=j.out.2.2.2.2.2.2.2.2.1;have UD:=j.out.2.1;have UE:=j.out.2.2.1;have ac:w.grownBy r (some b):=(World.grownBy.trans ⟨z.out.2.2.2.os,z.out.2.2.2.tape,z.out.2.2.2.output,z.out.2.2.2.size,λk R _=>z.out.2.2.2.block k R⟩ D);have ad:dB r K q:=(D.block K z.out.1.lt (by simp;omega)).trans z.out.1
 have ae:dA r m 0 0 bM dC:=z.out.2.1.grown D (by simp;omega)
 have H2:=Lh (bfy ad (bfy ae (bfy O (bfy ac Ae))));clear O D hn Q Ae am UD UE ac ad ae;dsimp only
 iterate 1 go_step
 refine bV (by kernel_rfl) 120 _ rfl _ (by simp only[bgb,bgc,bge];exact Vq n) ?_
 iterate 3 go_step
 refine bg6 rfl _ _ _ rfl r.heap.size (bJ n 0 bM dC) rfl rfl 120 zeroC (bg5 r _) bW rfl (kJ rfl rfl) ?_;obtain⟨w3,E⟩:=Nm ((r.alloc (.cells zeroC 120)).setRow r.heap.size (bJ n 0 bM dC));have Ik:w3=(r.alloc (.cells #[.int .i64 0,.int .i64 0,.slice none 0 0,.complex .f64 0 0] 120)).setRow r.heap.size (bJ n 0 bM dC):=E;obtain⟨ob,S⟩:=Nm (r.heap.size);have d:Bw r w3:=by rw[E];exact below_setRow ((Below.refl _ r).alloc (bfx _) _) (bfx _) _
 have af:dA w3 ob n 0 bM dC:=by rw[E,S];exact setRow_heap _ _ _ _ _ _ (bg5 r _)
 have ag:AtR w a b K m ob q n 0 t1 w3:=⟨H2.out.1.below d,H2.out.2.1.below d,af,H2.out.2.2.1.below d,H2.out.2.2.2.1.trans ⟨d.os,d.tape,d.output,d.size,λk R _=>d.block k R⟩,by
  have h1:=j.out.2.2.2.2.2.2.2.2.1;have h2:=j.out.2.2.2.2.2.2.2.2.2.1;have h3:=j.out.2.1;have h4:=j.out.2.2.1;have h5:=H2.out.2.1.lt;omega⟩
 have H3:=Lh ag;rw[<-Ik,<-S];clear E Ik S d af ag;have d4:w3.cell? ⟨K,4,none⟩=some (.int .i64 2):=by
  obtain⟨_,_,_,_,d4,_⟩:=HD.out _ H3.out.rq;rw[d4,j.out.2.2.2.2.2.2.2.2.2.2.2.1]
 go_wp2_with fail;refine(rsigned_any w3 a b t1 H3.out.rd).mono ?_;rintro e w4 ⟨rfl,ah,ai⟩;have H4:=Lh (H3.out.read ah ai);clear ah ai d4;obtain⟨k,R⟩:=Nm (t1.signed.1);obtain⟨x,U⟩:=Nm (t1.signed.2);have Ae:=H2.out.2.2.2.2;rw[<-R,<-U]at Ae;rw[<-U]at H4;rw[<-R];have HT:=Lh Ae;clear Ae R U;obtain⟨e0,e1,Y,Z⟩:=H4.out.row.d4;have f1:=frozen_of_row w4 ob 1 _ _ H4.out.row;have HS:=Lh (H4.out.set k);dsimp only;go_upto_region 18 with fail;obtain⟨w5,aj⟩:=Nm (w4.setCell ⟨ob,1,none⟩ (.int .i64 k));rw[<-aj]at HS ⊢;clear aj e0 e1 Y Z f1;obtain⟨e0,e1,Y,Z⟩:=HS.out.row.d4;obtain⟨d0,d1,d2,d3,d4,d5⟩:=HD.out _ HS.out.rq;have YB:=kM w5 q ⟨n,k,[],0,0⟩ bM dC (bC.nil _) jd (bgi _);obtain⟨rt,aa⟩:=Nm ((fP.mk n k [] 0 0).rightB q);rw[<-aa]at YB;have F:=Lh (bfy YB aa);clear YB aa;unfold bM at Y;unfold dC at Z;go_wp2_with fail;refine F.out.1.mono ?_;rintro e w6 ⟨rfl,ak⟩;have H6:=Lh (HS.out.below ak);clear ak e0 e1 Y Z d0 d1 d2 d3 d4 d5;dsimp only
 cases rt with
 | false=>
  have HQ:Hid (t.rD q=(dY,x.fail 11)):=by
   have h1:t.rD q=(dY,x.fail 11):=by
    unfold TapeL.rD;rw[HT.out,if_neg (by rw[<-F.out.2];decide)]
   exact Lh h1
  go_wp2_with fail;refine(rfail_any w6 a b x 11 H6.out.rd).mono ?_;rintro e w7 ⟨rfl,al,Yx⟩;have H7:=Lh (H6.out.read al Yx);clear al Yx;dsimp only;go_wp2_with fail;refine(rerr_any w7 a b _ H7.out.rd).mono ?_;rintro e w8 ⟨rfl,rfl⟩;have an:=yj x;have Ze:=H7;obtain⟨te,l⟩:=Nm ((x.fail 11).e);rw[<-l]at an ⊢;clear l;dsimp only;go_upto_region 21 with fail;refine bg4 ?_;refine bV (by kernel_rfl) 120 _ rfl zeroC (by simp only[bgb,bge];exact Dj) ?_
  refine bg6 rfl _ _ _ rfl m zeroC rfl rfl 120 zeroC Ze.out.res bW rfl (kJ rfl rfl) ?_;have y:=Ze.out.ended 0 0;obtain⟨w9,c⟩:=Nm (w8.setRow m (bJ 0 0 bM dC));have aB:w9=w8.setRow m zeroC:=c;rw[<-c]at y;rw[<-aB];have J:=Lh y;clear y c aB;go_wp2_with fail;refine bodyPost_ret (v:=.agg (bJ 0 0 bM dC)) (results_cell_row (p:=4) (ty:=120) rfl _ _ m 120 _ (0,0) _ rfl J.out.1 underlying120 rfl bW) rfl ?_;rw[HP.out];unfold sJ;rw[HQ.out];exact⟨rfl,J.out.2⟩
 | true=>
  go_wp2_with fail;refine(rerr_any w6 a b x H6.out.rd).mono ?_;rintro e w8 ⟨rfl,rfl⟩;have Ze:=H6;obtain⟨te,l⟩:=Nm (x.e);rw[<-l];by_cases h0:te=0
  ·have HQ:Hid (t.rD q=(⟨n,k,[],0,0⟩,x)):=by
    have h1:t.rD q=(⟨n,k,[],0,0⟩,x):=by
     unfold TapeL.rD;rw[HT.out,if_pos F.out.2.symm,if_pos (by rw[<-l];exact h0)]
    exact Lh h1
   clear l;subst h0;obtain⟨e0,e1,Y,Z⟩:=H6.out.row.d4;unfold bM at Y;unfold dC at Z;dsimp only;go_upto_region 22 with fail;refine bg4 ?_
   iterate 3 go_step
   refine bg6 rfl _ _ _ rfl m (bJ n k bM dC) rfl rfl 120 zeroC Ze.out.res bW rfl (kJ rfl rfl) ?_;have y:=Ze.out.ended n k;obtain⟨w9,c⟩:=Nm (w8.setRow m (bJ n k bM dC));rw[<-c]at y ⊢;have J:=Lh y;clear y c e0 e1 Y Z;go_wp2_with fail;refine bodyPost_ret (v:=.agg (bJ n k bM dC)) (results_cell_row (p:=4) (ty:=120) rfl _ _ m 120 _ (0,0) _ rfl J.out.1 underlying120 rfl bW) rfl ?_;rw[HP.out];unfold sJ;rw[HQ.out];exact⟨rfl,J.out.2⟩
  ·have HQ:Hid (t.rD q=(dY,x)):=by
    have h1:t.rD q=(dY,x):=by
     unfold TapeL.rD;rw[HT.out,if_pos F.out.2.symm,if_neg (by rw[<-l];exact h0)]
    exact Lh h1
   clear l;dsimp only;go_upto_region 21 with fail;refine bg4 ?_;refine bV (by kernel_rfl) 120 _ rfl zeroC (by simp only[bgb,bge];exact Dj) ?_
   refine bg6 rfl _ _ _ rfl m zeroC rfl rfl 120 zeroC Ze.out.res bW rfl (kJ rfl rfl) ?_;have y:=Ze.out.ended 0 0;obtain⟨w9,c⟩:=Nm (w8.setRow m (bJ 0 0 bM dC));have aB:w9=w8.setRow m zeroC:=c;rw[<-c]at y;rw[<-aB];have J:=Lh y;clear y c aB;go_wp2_with fail;refine bodyPost_ret (v:=.agg (bJ 0 0 bM dC)) (results_cell_row (p:=4) (ty:=120) rfl _ _ m 120 _ (0,0) _ rfl J.out.1 underlying120 rfl bW) rfl ?_;rw[HP.out];unfold sJ;rw[HQ.out];exact⟨rfl,J.out.2⟩
def TapeL.kW(q:bu)(t:TapeL):bY × TapeL:=
 (⟨t.window.1,⟨(t.window.2.rD q).1.n,(t.window.2.rD q).1.a,[],0,0⟩,((t.window.2.rD q).2.number 1073741824).1⟩,((t.window.2.rD q).2.number 1073741824).2)
structure Vg(w:World)(base b qb rb pb:Nat)(q:bu)(x:bY)(t:TapeL)(wr:World):Prop where
 rq:dB wr qb q
 res:dw wr rb dh
 row:dw wr pb ⟨x,bM,dC,rfl,rfl⟩
 rd:RdAt base wr b t
 grown:w.grownBy wr (some b)
 low:b<w.heap.size/\w.heap.size<=qb/\qb<rb/\rb<pb/\base<=w.heap.size
section
variable {w wr w' : World} {base b qb rb pb : Nat} {q : bu} {x x' : bY} {t t' : TapeL}
theorem Vg.read(h:Vg w base b qb rb pb q x t wr)(e:RdAt base w' b t')(a:wr.grownBy w' (some b)):Vg w base b qb rb pb q x t' w':=by
 obtain⟨d,j,k,m,l,c⟩:=h;exact⟨(a.block qb d.lt (by simp;omega)).trans d,j.grown a (by simp;omega),k.grown a (by simp;omega),e,l.trans a,c⟩
theorem Vg.put(h:Vg w base b qb rb pb q x t wr)(a:∀k,k≠pb->w'.heap[k]? =wr.heap[k]?)(e:w'.heap.size=wr.heap.size)(j:w'.os=wr.os)(l:w'.tape=wr.tape)(m:w'.output=wr.output)
  (c:dw w' pb ⟨x',bM,dC,rfl,rfl⟩):Vg w base b qb rb pb q x' t w':=by
 obtain⟨p,r,y,s,d,n⟩:=h;exact⟨(a qb (by omega)).trans p,(a rb (by omega)).trans r,c,s.same (a b (by omega)) (λk _ _ _=>a k (by omega)),⟨j.trans d.os,l.trans d.tape,m.trans d.output,by rw[e];exact d.size,λk u o=>(a k (by omega)).trans (d.block k u o)⟩,n⟩
end
theorem Vp(w:World)(q:bu):∃a,a=((w.alloc (.cells #[.int .i64 q.kind,.int .i64 q.size,.int .i64 q.slide,.int .i64 q.late,.int .i64 q.agg,.int .i64 q.k] 23)).alloc (.cells #[.string ⟨#[]⟩,.int .i64 0,.int .i64 0,.int .i64 0,.int .i64 0,.slice none 0 0,.complex .f64 0 0,.int .i64 0] 131)).alloc (.cells #[.string ⟨#[]⟩,.int .i64 0,.int .i64 0,.int .i64 0,.int .i64 0,.slice none 0 0,.complex .f64 0 0,.int .i64 0] 131)/\
  (w.alloc (.cells #[.int .i64 q.kind,.int .i64 q.size,.int .i64 q.slide,.int .i64 q.late,.int .i64 q.agg,.int .i64 q.k] 23)).heap.size=w.heap.size+1/\
  ((w.alloc (.cells #[.int .i64 q.kind,.int .i64 q.size,.int .i64 q.slide,.int .i64 q.late,.int .i64 q.agg,.int .i64 q.k] 23)).alloc (.cells #[.string ⟨#[]⟩,.int .i64 0,.int .i64 0,.int .i64 0,.int .i64 0,.slice none 0 0,.complex .f64 0 0,.int .i64 0] 131)).heap.size=w.heap.size+2/\
  dB a w.heap.size q/\dw a (w.heap.size+1) dh/\dw a (w.heap.size+2) dh/\Bw w a:=by
 have b:(w.alloc (.cells #[.int .i64 q.kind,.int .i64 q.size,.int .i64 q.slide,.int .i64 q.late,.int .i64 q.agg,.int .i64 q.k] 23)).heap.size=w.heap.size+1:=bg w _;have c:((w.alloc (.cells #[.int .i64 q.kind,.int .i64 q.size,.int .i64 q.slide,.int .i64 q.late,.int .i64 q.agg,.int .i64 q.k] 23)).alloc (.cells #[.string ⟨#[]⟩,.int .i64 0,.int .i64 0,.int .i64 0,.int .i64 0,.slice none 0 0,.complex .f64 0 0,.int .i64 0] 131)).heap.size=w.heap.size+2:=by rw[bg,b]
 refine⟨_,rfl,b,c,?_,?_,?_,(((Below.refl _ w).alloc (bfx _) _).alloc (by rw[b];omega) _).alloc (by rw[c];omega) _⟩
 ·show(World.heap _)[_]? =_;rw[heap_alloc_old _ _ (by rw[c];omega),heap_alloc_old _ _ (by rw[b];omega)]
  exact bg5 _ _
 ·show(World.heap _)[_]? =_;rw[heap_alloc_old _ _ (by rw[c];omega),<-b]
  exact bg5 _ _
 show(World.heap _)[_]? =_;rw[<-c];exact bg5 _ _
theorem KX(w:World)(c b:Nat)(t:TapeL)(q:bu)(M:q.agg=2)(hq:q.rightB=true)(h:RdAt c w b t)(hb:c<=w.heap.size):
  Calls prog 92 #[.pointer (some ⟨b,0,none⟩),.agg q.cells] w (RdEnd c w b (t.kW q).2 (.agg (bn.mk (t.kW q).1 bM dC rfl rfl).cells)):=by
 obtain⟨P,hP⟩:=Nm (RdEnd c w b (t.kW q).2 (.agg (bn.mk (t.kW q).1 bM dC rfl rfl).cells):Ending->World->Prop);rw[<-hP];have HP:=Lh hP;clear hP;obtain⟨w0,ac,ad,ae,Zl,af,ag,m⟩:=Vp w q;obtain⟨N,XW⟩:=Nm (w.heap.size);obtain⟨o,O⟩:=Nm (w.heap.size+1);obtain⟨l,Q⟩:=Nm (w.heap.size+1+1);have h0:Vg w c b N o l q sH t w0:=⟨by rw[XW];exact Zl,by rw[O];exact af,by rw[Q];exact ag,h.below m,⟨m.os,m.tape,m.output,m.size,λk s _=>m.block k s⟩,h.lt,by omega,by omega,by omega,hb⟩
 obtain⟨W1,R,S⟩:∃W R,t.window=(W,R):=⟨_,_,rfl⟩;obtain⟨A1,U,Y⟩:∃A U,R.rD q=(A,U):=⟨_,_,rfl⟩;obtain⟨r,t3,Z⟩:∃r t3,U.number 1073741824=(r,t3):=⟨_,_,rfl⟩;have ah:t.kW q=(⟨W1,⟨A1.n,A1.a,[],0,0⟩,r⟩,t3):=by
  unfold TapeL.kW;rw[S];simp only;rw[Y];simp only;rw[Z]
 have ai:∀j,RdAt c j b t->c<=j.heap.size->Calls prog 71 #[.pointer (some ⟨b,0,none⟩)] j (RdEnd c j b R (.agg W1.cells)):=λj K M=>by
  have h:=Ko j c b t K M;rw[S]at h;exact h
 have aj:∀j,RdAt c j b R->c<=j.heap.size->Calls prog 139 #[.pointer (some ⟨b,0,none⟩),.agg q.cells] j (λe w2=>e=.returned (.agg (bJ A1.n A1.a bM dC))/\RdAt c w2 b U/\j.grownBy w2 (some b)):=λj K h3=>by
  have h:=PT j c b R q M hq K h3;unfold sJ at h;rw[Y]at h;exact h
 have ak:∀j,RdAt c j b U->Calls prog 69 #[.pointer (some ⟨b,0,none⟩),.int .i64 1073741824] j (RdEnd c j b t3 (.int .i64 r)):=λj K=>by
  have h:=rnumber_any j c b U 1073741824 K;rw[Z]at h;exact h
 have D:=Lh (bfy ac (bfy XW (bfy O (bfy Q (bfy ad (bfy ae (bfy h0 (bfy ah (bfy ai (bfy aj ak))))))))));have HD:Hid (∀j,dB j N q->D6 j N q.kind q.size q.slide q.late q.agg q.k):=Lh (λj h=>h.d6);show Calls prog 92 #[.pointer (some ⟨b,0,none⟩),.agg #[.int .i64 q.kind,.int .i64 q.size,.int .i64 q.slide,.int .i64 q.late,.int .i64 q.agg,.int .i64 q.k]] w P;clear ac XW O Q Zl af ag m h0 h hb M hq S Y Z ah ai aj ak;go_enter func92,ntmps92;go_upto_region 2 with fail;rw[<-D.out.1,<-D.out.2.2.2.1,<-D.out.2.2.1,<-D.out.2.1];clear ad ae;go_wp2_with fail;refine(D.out.2.2.2.2.2.2.2.2.1 w0 D.out.2.2.2.2.2.2.1.rd (bgn D.out.2.2.2.2.2.2.1.low.2.2.2.2 D.out.2.2.2.2.2.2.1.grown.size)).mono ?_;rintro e w3 ⟨rfl,al,am⟩;have H3:=Lh (D.out.2.2.2.2.2.2.1.read al am);clear al am;obtain⟨u,x,y⟩:=W1;unfold bf.cells;dsimp only;have d:=H3.out.row;have c5:=d.cell 0 rfl;have f5:=d.fro 0;have c6:=d.cell 1 rfl;have f6:=d.fro 1;have c7:=d.cell 2 rfl;have f7:=d.fro 2;have ao:Vg w c b N o l q ⟨⟨u,x,y⟩,dY,0⟩ R (((w3.setCell ⟨l,0,none⟩ (Sv u)).setCell ⟨l,1,none⟩ (.int .i64 x)).setCell ⟨l,2,none⟩ (.int .i64 y)):=by
  refine H3.out.put (λk s=>?_) (by simp[World.setCell]) rfl rfl rfl ?_
  ·rw[heap_setCell_other _ _ _ _ (show k≠l from s),heap_setCell_other _ _ _ _ (show k≠l from s),heap_setCell_other _ _ _ _ (show k≠l from s)]
  show(World.heap _)[l]? =_;rw[heap_setCell_same _ l 2 _ _ _ (heap_setCell_same _ l 1 _ _ _ (heap_setCell_same w3 l 0 _ _ _ d))];rfl
 have aG:=Lh ao;clear d ao;simp only[sH,bF,dY]at c5 c6 c7;go_upto_region 3 with fail;obtain⟨w4,ap⟩:=Nm (((w3.setCell ⟨l,0,none⟩ (Sv u)).setCell ⟨l,1,none⟩ (.int .i64 x)).setCell ⟨l,2,none⟩ (.int .i64 y));rw[<-ap]at aG ⊢;clear ap c5 c6 c7 f5 f6 f7;obtain⟨d0,d1,d2,d3,d4,d5⟩:=HD.out _ aG.out.rq;go_wp2_with fail;refine(D.out.2.2.2.2.2.2.2.2.2.1 w4 aG.out.rd (bgn aG.out.low.2.2.2.2 aG.out.grown.size)).mono ?_;rintro e w5 ⟨rfl,ar,aw⟩;have H5:=Lh (aG.out.read ar aw);clear ar aw d0 d1 d2 d3 d4 d5;obtain⟨E,F,at_,au,av⟩:=A1;dsimp only
 iterate 4 go_step
 refine pJ rfl (.tmp 12) (.tmp 11) rfl l (bn.mk ⟨⟨u,x,y⟩,dY,0⟩ bM dC rfl rfl) ⟨E,F,[],0,0⟩ bM dC rfl rfl rfl rfl H5.out.row ?_;intro w6 Ag J;have aH:Hid (Vg w c b N o l q ⟨⟨u,x,y⟩,⟨E,F,[],0,0⟩,0⟩ U w6):=by
  obtain⟨K,M,h3,h4,I,ax⟩:=H5.out;refine Lh ⟨(J.block N K.lt (by simp;omega)).trans K,M.grown J (by simp;omega),Ag,?_,?_,ax⟩
  ·exact h4.same (J.block b h4.lt (by simp;omega)) (λk s aC _=>J.block k aC (by simp;omega))
  exact⟨J.os.trans I.os,J.tape.trans I.tape,J.output.trans I.output,bgn I.size J.size,λk s ab=>(J.block k (Nat.lt_of_lt_of_le s I.size) (by simp;omega)).trans (I.block k s ab)⟩
 clear Ag J;go_wp2_with fail;refine(D.out.2.2.2.2.2.2.2.2.2.2 w6 aH.out.rd).mono ?_;rintro e w7 ⟨rfl,ay,Yx⟩;have H7:=Lh (aH.out.read ay Yx);clear ay Yx;dsimp only;have Yd:=H7.out.row;have c7:=Yd.cell 7 rfl;have f7:=Yd.fro 7;have EM:Vg w c b N o l q ⟨⟨u,x,y⟩,⟨E,F,[],0,0⟩,r⟩ t3 (w7.setCell ⟨l,7,none⟩ (.int .i64 r)):=
  H7.out.put (λk s=>heap_setCell_other _ _ _ _ (show k≠l from s)) (by simp[World.setCell]) rfl rfl rfl ((heap_setCell_same w7 l 7 _ _ _ Yd).trans rfl)
 have IA:=Lh EM;clear Yd EM;go_upto_region 5 with fail;obtain⟨L,az⟩:=Nm (w7.setCell ⟨l,7,none⟩ (.int .i64 r));rw[<-az]at IA ⊢;clear az c7 f7;obtain⟨c0,c1,c2,c3,c4,c5,c6,c7⟩:=IA.out.row.d8;simp only[bM,dC]at c0 c1 c2 c3 c4 c5 c6 c7;refine bg4 ?_
 iterate 3 go_step
 refine bg6 rfl _ _ _ rfl o (bn.mk ⟨⟨u,x,y⟩,⟨E,F,[],0,0⟩,r⟩ bM dC rfl rfl).cells rfl rfl 131 dh.cells IA.out.res fK rfl (fV _) ?_;have z:∀k,k≠o->(L.setRow o (bn.mk ⟨⟨u,x,y⟩,⟨E,F,[],0,0⟩,r⟩ bM dC rfl rfl).cells).heap[k]? =L.heap[k]? :=λk s=>setRow_other L o k _ s;have aA:(L.setRow o (bn.mk ⟨⟨u,x,y⟩,⟨E,F,[],0,0⟩,r⟩ bM dC rfl rfl).cells).heap.size=L.heap.size:=by simp[World.setRow]
 have hE:dw (L.setRow o (bn.mk ⟨⟨u,x,y⟩,⟨E,F,[],0,0⟩,r⟩ bM dC rfl rfl).cells) o (bn.mk ⟨⟨u,x,y⟩,⟨E,F,[],0,0⟩,r⟩ bM dC rfl rfl)/\RdAt c (L.setRow o (bn.mk ⟨⟨u,x,y⟩,⟨E,F,[],0,0⟩,r⟩ bM dC rfl rfl).cells) b t3/\w.grownBy (L.setRow o (bn.mk ⟨⟨u,x,y⟩,⟨E,F,[],0,0⟩,r⟩ bM dC rfl rfl).cells) (some b):=by
  obtain⟨K,M,h3,h4,I,ax⟩:=IA.out;exact⟨M.reset _,h4.same (z b (by omega)) (λk _ _ _=>z k (by omega)),⟨I.os,I.tape,I.output,by rw[aA];exact I.size,λk s ab=>(z k (by omega)).trans (I.block k s ab)⟩⟩
 obtain⟨w9,aB⟩:=Nm (L.setRow o (bn.mk ⟨⟨u,x,y⟩,⟨E,F,[],0,0⟩,r⟩ bM dC rfl rfl).cells);rw[<-aB]at hE ⊢;have H9:=Lh hE;clear hE aB z aA c0 c1 c2 c3 c4 c5 c6 c7;go_wp2_with fail;refine bodyPost_ret (v:=.agg (bn.mk ⟨⟨u,x,y⟩,⟨E,F,[],0,0⟩,r⟩ bM dC rfl rfl).cells) (results_cell_row (p:=4) (ty:=131) rfl _ _ o 131 _ (0,0) _ rfl H9.out.1 underlying131 rfl fK) rfl ?_;rw[HP.out];unfold RdEnd;rw[D.out.2.2.2.2.2.2.2.1];exact⟨rfl,H9.out.2.1,H9.out.2.2⟩
end Go.Proofs.YtgfmbkoieacgoaaGreatDoor
