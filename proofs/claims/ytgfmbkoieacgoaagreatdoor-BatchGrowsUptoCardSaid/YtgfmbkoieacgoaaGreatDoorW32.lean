/- 32. -/
import Derived.Test.YtgfmbkoieacgoaaGreatDoorW14
import Derived.Test.YtgfmbkoieacgoaaGreatDoorW28
import Derived.Test.YtgfmbkoieacgoaaGreatDoorW29
import Derived.Test.YtgfmbkoieacgoaaGreatDoorW30
import Derived.Test.YtgfmbkoieacgoaaGreatDoorW31
set_option maxRecDepth 100000
set_option maxHeartbeats 4000000
namespace Go.Proofs.YtgfmbkoieacgoaaGreatDoor
open Go Go.RowKit Go.Proofs.Tryz
def nZ(p:bY):bn:=⟨p,bM,dC,rfl,rfl⟩
def TapeL.jP(q:bu):Nat->TapeL->List bY × TapeL
 | 0,t=>([],t)
 | n+1,t=>((TapeL.jP q n t).1++[((TapeL.jP q n t).2.kW q).1],((TapeL.jP q n t).2.kW q).2)
def TapeL.Gz(q:bu)(t:TapeL):df × TapeL:=
 (⟨t.signed.1,(TapeL.jP q (t.signed.2.number 256).1.toNat (t.signed.2.number 256).2).1⟩,(TapeL.jP q (t.signed.2.number 256).1.toNat (t.signed.2.number 256).2).2)
def TD(q:bu)(r:df × TapeL):TapeL:=if fQ q r.1=true then r.2 else r.2.fail 11
def Qj(s:df)(e:Int):df × Int:=if e=0 then (s,0)else (⟨0,[]⟩,e)
def TapeL.rZ(q:bu)(t:TapeL):df × Int:=Qj (t.Gz q).1 (TD q (t.Gz q)).done
theorem BL(q:bu)(n:Nat)(t:TapeL):(TapeL.jP q n t).1.length=n/\∀p∈(TapeL.jP q n t).1,p.w.key.length<=16/\p.a.top=[]/\p.a.u=0/\p.a.v=0:=by
 induction n with
 | zero=>exact⟨rfl,λp b=>by cases b⟩
 | succ n ih=>
  refine⟨by simp[TapeL.jP,ih.1],λp b=>?_⟩
  rcases List.mem_append.1 b with b | b
  ·exact ih.2 p b
  rw[List.mem_singleton.1 b];exact⟨Ci _,rfl,rfl,rfl⟩
theorem DL(l:List bY):(l.map nZ).map bn.p=l:=by
 rw[List.map_map];exact List.map_id _
theorem Pn {w:World} {b:Nat} {v:Value} {l:List bn}(h:dm w b v l) {a:Nat} {c:Array Value} {t:TypeId} {d:Nat × Nat}(e:w.heap[a]? =some (.cells c t d))(j:t≠131):v.ownBlock≠some a:=qH h e j
structure CE(w2:World)(b qb rb sb:Nat)(q:bu)(m:Int)(ps:List bY)(rv tv:Value)(t:TapeL)(wr:World):Prop where
 rq:dB wr qb q
 res:bZ wr rb 0 bM
 row:bZ wr sb m rv
 own:dm wr w2.heap.size tv (ps.map nZ)
 rd:RdAt w2.heap.size wr b t
 grown:w2.grownBy wr (some b)
 low:qb<w2.heap.size/\rb<w2.heap.size/\b<w2.heap.size/\w2.heap.size<=sb/\qb<rb/\rb<b
section
variable {w2 wr w' : World} {b qb rb sb : Nat} {q : bu} {m : Int} {ps ps' : List bY} {rv tv tv' : Value} {t t' : TapeL}
theorem CE.read(h:CE w2 b qb rb sb q m ps rv tv t wr)(l:RdAt w2.heap.size w' b t')(a:wr.grownBy w' (some b)):CE w2 b qb rb sb q m ps rv tv t' w':=by
 obtain⟨d,n,o,j,s,p,c⟩:=h;refine⟨(a.block qb d.lt (by simp;omega)).trans d,n.grown a (by simp;omega),o.grown a (by simp;omega),j.kept a ?_,l,p.trans a,c⟩
 cases e:tv.ownBlock with
 | none=>exact .inl rfl
 | some k=>
  right
  intro r;cases r
  have:=(dm.lt j e).1;omega
theorem CE.below(h:CE w2 b qb rb sb q m ps rv tv t wr)(a:Bw wr w'):CE w2 b qb rb sb q m ps rv tv t w':=
 ⟨h.rq.below a,h.res.below a,h.row.below a,h.own.far a,h.rd.below a,h.grown.trans ⟨a.os,a.tape,a.output,a.size,λk c _=>a.block k c⟩,h.low⟩
theorem CE.app(h:CE w2 b qb rb sb q m ps rv tv t wr)(j:wr.grownBy w' tv.ownBlock)(r:dm w' w2.heap.size tv' (ps'.map nZ)):CE w2 b qb rb sb q m ps' rv tv' t w':=by
 obtain⟨s,u,n,p,x,l,a⟩:=h;have d:∀k,k<w2.heap.size->w'.heap[k]? =wr.heap[k]? :=λk d=>j.block k (Nat.lt_of_lt_of_le d l.size) λe=>by have:=(p.lt e.symm).1;omega
 exact⟨(d qb a.1).trans s,(d rb a.2.1).trans u,(j.block sb n.lt λe=>Pn p n (by decide) e.symm).trans n,r,x.same (d b a.2.2.1) (λk c _ _=>d k c),⟨j.os.trans l.os,j.tape.trans l.tape,j.output.trans l.output,bgn l.size j.size,λk c o=>(d k c).trans (l.block k c o)⟩,a⟩
theorem CE.WU(h:CE w2 b qb rb sb q m ps rv tv t wr):CE w2 b qb rb sb q m ps tv tv t (wr.setCell ⟨sb,1,none⟩ tv):=by
 obtain⟨n,D,y,o,E,d,p⟩:=h;have a:∀k,k≠sb->(wr.setCell ⟨sb,1,none⟩ tv).heap[k]? =wr.heap[k]? :=λk l=>heap_setCell_other _ _ _ _ (show k≠sb from l);have r:(wr.setCell ⟨sb,1,none⟩ tv).heap.size=wr.heap.size:=by simp[World.setCell]
 refine⟨(a qb (by omega)).trans n,(a rb (by omega)).trans D,(heap_setCell_same wr sb 1 _ _ _ y).trans rfl,?_,E.same (a b (by omega)) (λk l _ _=>a k (by omega)),⟨d.os,d.tape,d.output,by rw[r];exact d.size,λk l c=>(a k (by omega)).trans (d.block k l c)⟩,p⟩
 refine⟨o.1,?_⟩;have c:=Pn o y (by decide)
 rcases o.2 with e | ⟨g,s,u,z,n,x,j⟩
 ·exact .inl e
 exact .inr ⟨g,s,u,z,n,(a g λe=>c (by rw[z,e];rfl)).trans x,j⟩
end
theorem CE.slice {d wr:World} {b j k l:Nat} {q:bu} {m:Int} {s:List bY} {u x:Value} {t:TapeL}(h:CE d b j k l q m s u x t wr)(p:bY):
  (∀o,CE d b j k l q m s u x t (wr.alloc o))/\dS (wr.alloc (.cells #[Sv p.w.key,.int .i64 p.w.lo,.int .i64 p.w.hi,.int .i64 p.a.n,.int .i64 p.a.a,.slice none 0 0,.complex .f64 0 0,.int .i64 p.r] 131)) (some ⟨wr.heap.size,0,none⟩) [nZ p]/\∀o,d.heap.size<=(wr.alloc o).heap.size:=by
 obtain⟨a,c,e,_,y⟩:=(dm.XC wr 0 (bgi _) (nZ p)).form;injection e with e1 _ _
 rw[<-e1]at y;have z:∀o,Bw wr (wr.alloc o):=λo=>(Below.refl _ wr).alloc (bfx _) o;exact⟨λo=>h.below (z o),y,λo=>bgn h.grown.size (z o).size⟩
theorem gG.none(w:World):gG w (.agg #[.int .i64 0,.slice none 0 0]) ⟨0,[]⟩:=⟨_,[],rfl,(dm.nil w 0).ins,(λx a=>by cases a),rfl⟩
theorem CE.ended {w d wr:World} {b j a l:Nat} {q:bu} {m m':Int} {n:List bY} {o p pv':Value} {t:TapeL}(h:CE d b j a l q m n o p t wr)(e:Bw w d)(x:w.heap.size<=a):
  bZ (wr.setRow a #[.int .i64 m',pv']) a m' pv'/\Bw w (wr.setRow a #[.int .i64 m',pv']):=by
 obtain⟨y,r,z,D,E,c,s⟩:=h;refine⟨setRow_heap _ _ _ _ _ _ r,e.trans ⟨c.os,c.tape,c.output,by simp only[World.setRow,Array.size_modify];exact c.size,λk u=>?_⟩⟩
 exact(setRow_other wr a k _ (by omega)).trans (c.block k (Nat.lt_of_lt_of_le u e.size) (by simp;omega))
def wO(w:World)(r:df × Int)(e:Ending)(w':World):Prop:=∃v,e=.returned (.tuple #[v,.int .i64 r.2])/\gG w' v r.1/\Bw w w'
theorem Ld(m:Int):prog.built 72 [(0,.int .i64 m)]=some #[.int .i64 m,.slice none 0 0]:=by kernel_rfl
theorem Dk:prog.built 72 []=some #[.int .i64 0,.slice none 0 0]:=by kernel_rfl
theorem KZ(w:World)(q:bu)(a:Option Addr)(c:Nat)(s:List (BitVec 8))(h2:q.agg=2)(hq:q.rightB=true)(h:SrcP w a s.length s)(hc:a=none->c=0)(hl:s.length<=1073741824):
    Calls prog 37 #[.agg q.cells,.slice a s.length c] w (wO w ((TapeL.mk s 0).rZ q)):=by
  obtain⟨P,hP⟩:=Nm (wO w ((TapeL.mk s 0).rZ q):Ending->World->Prop);rw[<-hP];obtain⟨n,hn⟩:=Nm (s.length);rw[<-hn];obtain⟨w1,O⟩:=Nm ((w.alloc (.cells #[.int .i64 q.kind,.int .i64 q.size,.int .i64 q.slide,.int .i64 q.late,.int .i64 q.agg,.int .i64 q.k] 23)).alloc (.cells #[.int .i64 0,.slice none 0 0] 72));obtain⟨qb,XW⟩:=Nm (w.heap.size);obtain⟨z,ah⟩:=Nm (w.heap.size+1);have D:(w.alloc (.cells #[.int .i64 q.kind,.int .i64 q.size,.int .i64 q.slide,.int .i64 q.late,.int .i64 q.agg,.int .i64 q.k] 23)).heap.size=w.heap.size+1:=bg w _;have ag:w1.heap.size=w.heap.size+2:=by rw[O,bg,D]
  have ap:Bw w w1:=by rw[O];exact((Below.refl _ w).alloc (bfx _) _).alloc (by rw[D];omega) _
  have oZ:dB w1 qb q:=by
    show w1.heap[qb]? =_;rw[O,XW,heap_alloc_old _ _ (by rw[D];omega)]
    exact bg5 _ _
  have ar:bZ w1 z 0 bM:=by
    show w1.heap[z]? =_;rw[O,ah,<-D];exact bg5 _ _
  have YB:=kS w1 q;rw[hq]at YB;have d:=Lh (bfy O (bfy XW (bfy ah (bfy ag (bfy ap (bfy oZ (bfy ar (bfy YB (bfy hn (bfy h (bfy hc (bfy hl (bfy h2 (bfy hq hP))))))))))))));have HD:Hid (∀w',dB w' qb q->D6 w' qb q.kind q.size q.slide q.late q.agg q.k):=Lh (λw' h=>h.d6);show Calls prog 37 #[.agg #[.int .i64 q.kind,.int .i64 q.size,.int .i64 q.slide,.int .i64 q.late,.int .i64 q.agg,.int .i64 q.k],.slice a n c] w P;clear O XW ah D ag ap oZ ar YB hn h hc hl h2 hq hP;obtain⟨d0,d1,d2,d3,d4,d5⟩:=HD.out _ d.out.2.2.2.2.2.1;go_enter func37,ntmps37;go_upto_region 1 with fail;rw[<-d.out.1,<-d.out.2.2.1,<-d.out.2.1];go_wp2_with fail;refine d.out.2.2.2.2.2.2.2.1.mono ?_;rintro e w2 ⟨rfl,aa⟩;have H2:=Lh (bfy (d.out.2.2.2.2.2.1.below aa) (bfy (d.out.2.2.2.2.2.2.1.below aa) (bfy (d.out.2.2.2.2.1.trans (aa.mono d.out.2.2.2.2.1.size)) (show w.heap.size+2<=w2.heap.size by rw[<-d.out.2.2.2.1];exact aa.size))))
  clear aa d0 d1 d2 d3 d4 d5;dsimp only;go_wp2_with fail;refine(rread_any w2 a c n s d.out.2.2.2.2.2.2.2.2.1 (d.out.2.2.2.2.2.2.2.2.2.1.below H2.out.2.2.1) d.out.2.2.2.2.2.2.2.2.2.2.1 d.out.2.2.2.2.2.2.2.2.2.2.2.1).mono ?_;rintro e Q ⟨b,rfl,au,av,ab⟩;have H3:=Lh (bfy au (bfy av (bfy (H2.out.1.below ab) (bfy (H2.out.2.1.below ab) (H2.out.2.2.1.trans (ab.mono H2.out.2.2.1.size))))));clear au av ab;dsimp only;go_wp2_with fail;refine(rsigned_any Q Q.heap.size b ⟨s,0⟩ H3.out.1).mono ?_;rintro e w4 ⟨rfl,ai,ac⟩;obtain⟨m,t1,aj⟩:∃m t1,(TapeL.mk s 0).signed=(m,t1):=⟨_,_,rfl⟩;rw[aj]at ai ⊢;have aw:RdAt Q.heap.size w4 b t1:=ai;have ax:=H3.out.1.lt;have aF:=d.out.2.1;have aG:=d.out.2.2.1;have aH:=H2.out.2.2.2;have Uw:=H3.out.2.1;have H4:=Lh (bfy aw (bfy ac (bfy (show dB w4 qb q from(ac.block qb H3.out.2.2.1.lt (by simp;omega)).trans H3.out.2.2.1) (bfy (H3.out.2.2.2.1.grown ac (by simp;omega)) (bfy aj (bfy ax (show qb<z/\z<b from⟨by omega,by omega⟩)))))))
  clear ai aw ac aj ax aF aG aH Uw;dsimp only
  iterate 1 go_step
  refine bV (by kernel_rfl) 72 _ rfl _ (by simp only[bgb,bgc,bge];exact Ld m) ?_
  iterate 3 go_step
  refine bg6 rfl _ _ _ rfl w4.heap.size #[.int .i64 m,.slice none 0 0] rfl rfl 72 #[.int .i64 0,bM] (bg5 w4 _) bP rfl (dF rfl) ?_;obtain⟨w5,ad⟩:=Nm ((w4.alloc (.cells #[.int .i64 0,.slice none 0 0] 72)).setRow w4.heap.size #[.int .i64 m,.slice none 0 0]);obtain⟨sb,ae⟩:=Nm (w4.heap.size);have y:Bw w4 w5:=by rw[ad];exact below_setRow ((Below.refl _ w4).alloc (bfx _) _) (bfx _) _
  have ay:bZ w5 sb m bM:=by rw[ad,ae];exact setRow_heap _ _ _ _ _ _ (bg5 w4 _)
  have YF:CE Q b qb z sb q m [] bM bM t1 w5:=by
    obtain⟨h1,h2,h3,h4,h5,h6,h7⟩:=H4.out;refine⟨h3.below y,h4.below y,ay,dm.nil _ _,h1.below y,h2.trans ⟨y.os,y.tape,y.output,y.size,λk hk _=>y.block k hk⟩,by omega,by omega,h6,?_,h7⟩
    rw[ae];exact h2.size
  have H5:=Lh YF;rw[<-ad,<-ae];clear ad ae y ay YF;go_wp2_with fail;refine(rnumber_any w5 Q.heap.size b t1 256 H5.out.rd).mono ?_;rintro e w6 ⟨rfl,Ag,ZH⟩;obtain⟨k,K,ak⟩:∃k K,t1.number 256=(k,K):=⟨_,_,rfl⟩;have al:=number_range t1 256 (by decide)
  rw[ak]at Ag al ⊢;have H6:=Lh (H5.out.read (show RdAt Q.heap.size w6 b K from Ag) ZH);simp only at al;obtain⟨N,rfl⟩:∃N:Nat,k=(N:Int):=⟨k.toNat,by omega⟩
  have hN:N<=256:=by omega
  have j:(TapeL.mk s 0).Gz q=(⟨m,(TapeL.jP q N K).1⟩,(TapeL.jP q N K).2):=by
    unfold TapeL.Gz;rw[H4.out.2.2.2.2.1];simp only;rw[ak];simp only[Int.toNat_natCast]
  have HN:=Lh (bfy hN j);clear Ag ZH ak al hN j;dsimp only;go_wp2_with fail;go_loopw[20] (λu wr=>∃i:Nat,i<=N/\u=.int .i64 (i:Int)/\∃tv,CE Q b qb z sb q m (TapeL.jP q i K).1 tv tv (TapeL.jP q i K).2 wr) (λu _=>N-(intOf u).toNat)
  case atStart=>exact⟨0,bgi _,rfl,bM,H6.out⟩
  case round=>
    obtain⟨i,hi,rfl,tv,L⟩:=hrel;by_cases az:i<N
    · have aT:(0:Int)<=(i:Int)/\(i:Int)<N:=by omega
      have aI:=Lh az;have hN:=HN.out.1;obtain⟨E,F⟩:=Nm ((TapeL.jP q i K).1);obtain⟨U,am⟩:=Nm ((TapeL.jP q i K).2);have aJ:E.length=i:=by rw[F,(BL q i K).1]
      have j:(TapeL.jP q (i+1) K).1=E++[(U.kW q).1]/\(TapeL.jP q (i+1) K).2=(U.kW q).2:=by
        rw[F,am];exact⟨rfl,rfl⟩
      rw[<-F,<-am]at L;clear F am;obtain⟨Y,Z,rfl,-,-⟩:=L.own.form;obtain⟨M,hM⟩:=Nm ((E.map nZ).length);have aA:M<=256:=by rw[hM,bfz];omega
      rw[<-hM]at L;have aP:=L.below (w':=wr.drew) ⟨rfl,rfl,rfl,bfx _,λ_ _=>rfl⟩;have ZE:Hid (Calls prog 92 #[.pointer (some ⟨b,0,none⟩),.agg #[.int .i64 q.kind,.int .i64 q.size,.int .i64 q.slide,.int .i64 q.late,.int .i64 q.agg,.int .i64 q.k]] wr.drew (RdEnd Q.heap.size wr.drew b (U.kW q).2 (.agg #[Sv (U.kW q).1.w.key,.int .i64 (U.kW q).1.w.lo,.int .i64 (U.kW q).1.w.hi,.int .i64 (U.kW q).1.a.n,.int .i64 (U.kW q).1.a.a,.slice none 0 0,.complex .f64 0 0,.int .i64 (U.kW q).1.r]))):=
        Lh (KX wr.drew Q.heap.size b U q d.out.2.2.2.2.2.2.2.2.2.2.2.2.1 d.out.2.2.2.2.2.2.2.2.2.2.2.2.2.1 aP.rd aP.grown.size)
      obtain⟨px,aB⟩:=Nm ((U.kW q).1);obtain⟨tn,aC⟩:=Nm ((U.kW q).2);rw[<-aB,<-aC]at j ZE;obtain⟨d0,d1,d2,d3,d4,d5⟩:=HD.out _ aP.rq;obtain⟨e0,e1⟩:=aP.row.d2;have HR:=Lh (bfy aP (bfy j (bfy hM aA)));clear L aP j aJ hM aA aB aC hi hN;go_upto_region 7 with fail;go_region_law (first
        | (rw[if_pos (by rfl)]
           refine NF (.tmp 23) (.tmp 27) rfl Q.heap.size (.slice Y M Z) (E.map nZ) [nZ px] rfl (HC.out.1 _).own _ 1 1 rfl rfl HC.out.2.1 (by have:=HR.out.2.2.1;have:=HR.out.2.2.2;simp only[bg0];omega) (HC.out.2.2 _) ?_
           intro v' w8 ho hg hv;obtain⟨va,vc,rfl,-,-⟩:=ho.form;have h8:=(HC.out.1 _).app (ps':=E++[px]) hg (by rw[bgl];exact ho)
           obtain⟨aK,aL⟩:=h8.row.d2;have f8:=h8.row.fro 1;have HW:=Lh h8.WU;clear ho hg hv h8)
        | (rw[if_pos (by rfl)]
           go_simp;refine ZE.out.mono ?_;rintro e w7 ⟨rfl,aD,Yx⟩;have aO:=HR.out.1.read aD Yx;obtain⟨aM,aN⟩:=aO.row.d2;have HC:=Lh (aO.slice px);have aR:∀o,(w7.alloc o).cell? ⟨sb,1,none⟩=some (.slice Y M Z):=λo=>(HC.out.1 o).row.d2.2;clear aD Yx aO;dsimp only))
      all_goals
        have HE:=HW;clear HW HC ZE e0 e1 aM aN aR aK aL f8 d0 d1 d2 d3 d4 d5;have hN:=HN.out.1;go_wp2_with fail;have az:=aI.out;exact⟨⟨i+1,by omega,by go_num,_,by rw[HR.out.2.1.1,HR.out.2.1.2];simpa only[bft,bfz,bg0,bgl,bgc,bge]using HE.out⟩,by simp[intOf];omega⟩
    · obtain rfl:i=N:=by omega
      have l:=BL q i K;obtain⟨⟨E,t3⟩,F⟩:=Nm (TapeL.jP q i K);rw[<-F]at L l;have j:=HN.out.2;rw[<-F]at j;simp only at L l j;obtain⟨Y,Z,rfl,-,-⟩:=L.own.form;obtain⟨M,hM⟩:=Nm ((E.map nZ).length);have an:∀w',∀x∈E.map nZ,di w' x:=λw' x hx=>by
        obtain⟨p,hp,rfl⟩:=List.mem_map.1 hx;obtain⟨-,h1,h2,h3⟩:=l.2 p hp;refine⟨?_,?_⟩
        · show bC w' bM p.a.top;rw[h1];exact bC.nil _
        · show dN dC p.a.u p.a.v;rw[h2,h3];exact jd
      have YB:=wu wr q m (.slice Y (E.map nZ).length Z) (E.map nZ) L.own.ins (an wr) ⟨λx hx=>by
        obtain⟨p,hp,rfl⟩:=List.mem_map.1 hx;obtain⟨h0,h1,-,-⟩:=l.2 p hp;exact⟨bgn h0 (by decide),by show p.a.top.length<=_;rw[h1];exact bgi _⟩,by rw[bfz,l.1];have:=HN.out.1;omega⟩
      rw[DL]at YB;obtain⟨rt,ao⟩:=Nm (fQ q ⟨m,E⟩);rw[<-ao,<-hM]at YB;rw[<-hM]at L;have HR:=Lh (bfy YB (bfy hM (bfy an (bfy j ao))));have HG:=Lh L;obtain⟨d0,d1,d2,d3,d4,d5⟩:=HD.out _ L.rq;obtain⟨e0,e1⟩:=L.row.d2;clear l F j an YB ao hM L;go_wp2_with fail;refine HR.out.1.mono ?_;rintro e w7 ⟨rfl,aE⟩;have H7:=Lh (HG.out.below aE);clear aE d0 d1 d2 d3 d4 d5 e0 e1;dsimp only
      cases rt with
      | false=>
        have I:(TapeL.mk s 0).rZ q=Qj ⟨m,E⟩ (t3.fail 11).done:=by
          unfold TapeL.rZ TD;rw[HR.out.2.2.2.1];simp only;rw[<-HR.out.2.2.2.2];rfl
        have af:(t3.fail 11).done≠0:=by
          unfold TapeL.done
          split
          · decide
          · exact yj t3
        obtain⟨dn,R⟩:=Nm ((t3.fail 11).done);have S:Hid (dn≠0/\(TapeL.mk s 0).rZ q=(⟨0,[]⟩,dn)):=by
          rw[R,I];exact Lh ⟨af,by unfold Qj;rw[if_neg af]⟩
        go_wp2_with fail;refine(rfail_any w7 Q.heap.size b t3 11 H7.out.rd).mono ?_;rintro e w8 ⟨rfl,Ah,aQ⟩;have H8:=Lh (H7.out.read Ah aQ);clear Ah aQ I;dsimp only;go_wp2_with fail;refine(rend_any w8 Q.heap.size b _ H8.out.rd).mono ?_;rintro e aS ⟨rfl,rfl⟩;rw[<-R]at af ⊢;clear R;dsimp only;go_upto_region 13 with fail;refine bg4 ?_;refine bV (by kernel_rfl) 72 _ rfl #[.int .i64 0,.slice none 0 0] (by simp only[bgb,bge];exact Dk) ?_
        iterate 3 go_step
        refine bg6 rfl _ (.tmp 4) (.tmp 41) rfl z #[.int .i64 0,.slice none 0 0] rfl rfl 72 #[.int .i64 0,bM] H8.out.res bP rfl (dF rfl) ?_;have hE:=CE.ended (m':=0) (pv':=.slice none 0 0) H8.out H3.out.2.2.2.2 (by have:=d.out.2.2.1;omega)
        obtain⟨w9,J⟩:=Nm (aS.setRow z #[.int .i64 0,.slice none 0 0]);rw[<-J]at hE ⊢;have H9:=Lh hE;clear hE J;go_wp2_with fail;refine bodyPost_ret (v:=.tuple #[.agg #[.int .i64 0,.slice none 0 0],.int .i64 dn]) ((results_cell_row_tmpE (p:=4) (u:=5) (ty:=72) rfl _ _ z 72 #[.int .i64 0,.slice none 0 0] (0,0) _ rfl H9.out.1 underlying72 rfl bP).trans rfl) rfl ?_;rw[d.out.2.2.2.2.2.2.2.2.2.2.2.2.2.2];unfold wO;rw[S.out.2];exact⟨_,rfl,gG.none w9,H9.out.2⟩
      | true=>
        have I:(TapeL.mk s 0).rZ q=Qj ⟨m,E⟩ t3.done:=by
          unfold TapeL.rZ TD;rw[HR.out.2.2.2.1];simp only;rw[<-HR.out.2.2.2.2];rfl
        go_wp2_with fail;refine(rend_any w7 Q.heap.size b t3 H7.out.rd).mono ?_;rintro e w8 ⟨rfl,rfl⟩;obtain⟨dn,R⟩:=Nm (t3.done);rw[<-R]at I ⊢;clear R;dsimp only;by_cases hz:dn=0
        · subst hz;have S:Hid ((TapeL.mk s 0).rZ q=(⟨m,E⟩,0)):=by
            rw[I];exact Lh (by unfold Qj;rw[if_pos rfl])
          obtain⟨e0,e1⟩:=H7.out.row.d2;clear I;go_upto_region 14 with fail;refine bg4 ?_
          iterate 3 go_step
          refine bg6 rfl _ _ _ rfl z #[.int .i64 m,.slice Y M Z] rfl rfl 72 #[.int .i64 0,bM] H7.out.res bP rfl (dF rfl) ?_;have hE:=CE.ended (m':=m) (pv':=.slice Y M Z) H7.out H3.out.2.2.2.2 (by have:=d.out.2.2.1;omega)
          have uY:cZ (w8.setRow z #[.int .i64 m,.slice Y M Z]) (.slice Y M Z) (E.map nZ):=H7.out.own.ins.store H7.out.res (bD w8 z #[.int .i64 m,.slice Y M Z]);obtain⟨w9,J⟩:=Nm (w8.setRow z #[.int .i64 m,.slice Y M Z]);rw[<-J]at hE uY ⊢;have H9:=Lh (bfy hE.1 (bfy hE.2 uY));clear hE J uY e0 e1;go_wp2_with fail;refine bodyPost_ret (v:=.tuple #[.agg #[.int .i64 m,.slice Y M Z],.int .i64 0]) ((results_cell_row_tmpE (p:=4) (u:=5) (ty:=72) rfl _ _ z 72 #[.int .i64 m,.slice Y M Z] (0,0) _ rfl H9.out.1 underlying72 rfl bP).trans rfl) rfl ?_;rw[d.out.2.2.2.2.2.2.2.2.2.2.2.2.2.2];refine⟨_,by rw[S.out],?_,H9.out.2.1⟩
          rw[S.out];exact⟨_,E.map nZ,rfl,H9.out.2.2,HR.out.2.2.1 w9,(DL E).symm⟩
        · have S:Hid (dn≠0/\(TapeL.mk s 0).rZ q=(⟨0,[]⟩,dn)):=by
            rw[I];exact Lh ⟨hz,by unfold Qj;rw[if_neg hz]⟩
          have af:=hz;clear I hz;go_upto_region 13 with fail;refine bg4 ?_;refine bV (by kernel_rfl) 72 _ rfl #[.int .i64 0,.slice none 0 0] (by simp only[bgb,bge];exact Dk) ?_
          iterate 3 go_step
          refine bg6 rfl _ (.tmp 4) (.tmp 41) rfl z #[.int .i64 0,.slice none 0 0] rfl rfl 72 #[.int .i64 0,bM] H7.out.res bP rfl (dF rfl) ?_;have hE:=CE.ended (m':=0) (pv':=.slice none 0 0) H7.out H3.out.2.2.2.2 (by have:=d.out.2.2.1;omega)
          obtain⟨w9,J⟩:=Nm (w8.setRow z #[.int .i64 0,.slice none 0 0]);rw[<-J]at hE ⊢;have H9:=Lh hE;clear hE J;go_wp2_with fail;refine bodyPost_ret (v:=.tuple #[.agg #[.int .i64 0,.slice none 0 0],.int .i64 dn]) ((results_cell_row_tmpE (p:=4) (u:=5) (ty:=72) rfl _ _ z 72 #[.int .i64 0,.slice none 0 0] (0,0) _ rfl H9.out.1 underlying72 rfl bP).trans rfl) rfl ?_;rw[d.out.2.2.2.2.2.2.2.2.2.2.2.2.2.2];unfold wO;rw[S.out.2];exact⟨_,rfl,gG.none w9,H9.out.2⟩
end Go.Proofs.YtgfmbkoieacgoaaGreatDoor
set_option maxRecDepth 100000
set_option maxHeartbeats 4000000
namespace Go.Proofs.YtgfmbkoieacgoaaGreatDoor
open Go Go.RowKit Go.Proofs.Tryz
def pX(p:bY):List (BitVec 8):=p.w.bytes++((numberL p.a.n++signedL p.a.a)++numberL p.r)
def yH(s:df):List (BitVec 8):=(signedL s.mark++wordL s.panes.length)++s.panes.flatMap pX
theorem QU {q:bu} {p:bY}(h:jC q p=true):(pX p).length<=130:=by
 simp only[jC,bf8]at h;have b:=qw h.1;have c:=wordL_length p.a.n.toNat;have d:(signedL p.a.a).length<=10:=wordL_length _;have e:=wordL_length p.r.toNat;simp only[pX,bft,numberL];omega
theorem Hy(w:World)(q:bu)(m:Int)(pv:Value)(l:List bn)(y:q.agg=2)(hA:cZ w pv l)(hG:∀x∈l,di w x)(hF:tY l)(hR:fQ q ⟨m,l.map bn.p⟩=true):
  Calls prog 38 #[.agg q.cells,.agg #[.int .i64 m,pv]] w (BytesEnd w (yH ⟨m,l.map bn.p⟩)):=by
 obtain⟨P,hP⟩:=Nm (BytesEnd w (yH ⟨m,l.map bn.p⟩):Ending->World->Prop);rw[<-hP];obtain⟨sa,sc,rfl,-⟩:=id hA;obtain⟨N,hN⟩:=Nm (l.length);have ai:=wE.1 hR;have aN:N<=256:=by have:=ai.2.2.1;simp only[bfz]at this;omega
 obtain⟨w1,I⟩:=Nm ((w.alloc (.cells #[.int .i64 q.kind,.int .i64 q.size,.int .i64 q.slide,.int .i64 q.late,.int .i64 q.agg,.int .i64 q.k] 23)).alloc (.cells #[.int .i64 m,.slice sa N sc] 72));obtain⟨qb,XW⟩:=Nm (w.heap.size);obtain⟨sb,aj⟩:=Nm (w.heap.size+1);have s:(w.alloc (.cells #[.int .i64 q.kind,.int .i64 q.size,.int .i64 q.slide,.int .i64 q.late,.int .i64 q.agg,.int .i64 q.k] 23)).heap.size=w.heap.size+1:=bg w _;have aa:Bw w w1:=by rw[I];exact((Below.refl _ w).alloc (bfx _) _).alloc (by rw[s];omega) _
 have oZ:dB w1 qb q:=by
  show w1.heap[qb]? =_;rw[I,XW,heap_alloc_old _ _ (by rw[s];omega)]
  exact bg5 _ _
 have aw:bZ w1 sb m (.slice sa N sc):=by
  show w1.heap[sb]? =_;rw[I,aj,<-s];exact bg5 _ _
 have YB:=wu w1 q m (.slice sa l.length sc) l (hA.below aa) (λx hx=>(hG x hx).below aa) hF;rw[hR,<-hN]at YB;have n:=Lh (bfy I (bfy XW (bfy aj (bfy s (bfy aa (bfy oZ (bfy aw (bfy YB (bfy hN (bfy hA (bfy hG (bfy ai (bfy y hP)))))))))))));have HD:Hid (∀d,dB d qb q->D6 d qb q.kind q.size q.slide q.late q.agg q.k):=Lh (λd h=>h.d6);show Calls prog 38 #[.agg #[.int .i64 q.kind,.int .i64 q.size,.int .i64 q.slide,.int .i64 q.late,.int .i64 q.agg,.int .i64 q.k],.agg #[.int .i64 m,.slice sa l.length sc]] w P;rw[<-hN];clear I XW aj s aa oZ aw YB hN hA hG hF hR ai y hP;obtain⟨d0,d1,d2,d3,d4,d5⟩:=HD.out _ n.out.2.2.2.2.2.1;obtain⟨s0,s1⟩:=n.out.2.2.2.2.2.2.1.d2;go_enter func38,ntmps38;go_upto_region 1 with fail;rw[<-n.out.1,<-n.out.2.2.1,<-n.out.2.1];go_wp2_with fail;refine n.out.2.2.2.2.2.2.2.1.mono ?_;rintro e w2 ⟨rfl,ab⟩;have H2:=Lh (bfy (n.out.2.2.2.2.2.1.below ab) (bfy (n.out.2.2.2.2.2.2.1.below ab) (n.out.2.2.2.2.1.trans (ab.mono n.out.2.2.2.2.1.size))));clear ab d0 d1 d2 d3 d4 d5 s0 s1;dsimp only;go_upto_region 4 with fail;obtain⟨R,J⟩:=Nm (w2.alloc (.cells #[.slice none 0 0] 51));obtain⟨a,ac⟩:=Nm (w2.heap.size);have ad:Bw w2 R:=by rw[J];exact(Below.refl _ w2).alloc (bfx _) _
 have ay:PenAt (λk=>k<a) R a []:=by rw[J,ac];exact PenAt.new _ w2
 have az:R.heap.size=a+1:=by rw[J,ac];exact bg w2 _
 rw[<-J,<-ac];have Af:qb<a/\sb<a/\w.heap.size<=a:=by
  have o:=H2.out.1.lt;have y:=H2.out.2.1.lt;have h3:=H2.out.2.2.size;omega
 have HX:Hid (∀d,PKept (λk=>k<a) a R d->∀k,k<a->k<d.heap.size):=Lh (λd hK k hk=>by have:=hK.size;omega)
 have U4:Hid (∀d,PKept (λk=>k<a) a R d->Below a R d):=Lh (λd hK=>hK.below (λk hk=>hk) (bfx _) (by omega))
 have z:=Lh (bfy ay (bfy (H2.out.1.below ad) (bfy (H2.out.2.1.below ad) (bfy (H2.out.2.2.trans (ad.mono H2.out.2.2.size)) Af))));clear J ac ad ay az Af;obtain⟨s0,s1⟩:=z.out.2.2.1.d2;go_wp2_with fail;have aK:=n.out.2.2.2.2.2.2.2.2.2.2.2.1.2.1;refine(psigned_any R (λk=>k<a) a m [] (by omega) (by omega) z.out.1 (HX.out R (PKept.refl _ _ _)) (by decide)).mono ?_
 rintro e w4 ⟨rfl,aA,ak⟩;have al:bZ w4 sb m (.slice sa N sc):=ak.row z.out.2.2.1 (by decide) (by have:=z.out.2.2.2.2.2.1;omega)
 have H4:=Lh (bfy aA (bfy ak al));clear aA ak s0 s1 aK;obtain⟨s0,s1⟩:=al.d2;clear al;dsimp only;go_wp2_with fail;refine(pnumber_any w4 (λk=>k<a) a N ([]++signedL m) (by omega) H4.out.1 (HX.out w4 H4.out.2.1) (by have:=wordL_length (zig m);simp only[List.nil_append,signedL];omega)).mono ?_
 rintro e w5 ⟨rfl,am,an⟩;have ao:bZ w5 sb m (.slice sa N sc):=an.row H4.out.2.2 (by decide) (by have:=z.out.2.2.2.2.2.1;omega)
 obtain⟨L0,ae⟩:=Nm ([]++signedL m++wordL N);rw[<-ae]at am;have aB:L0.length<=20:=by
  have o:=wordL_length (zig m);have y:=wordL_length N;rw[ae];simp only[List.nil_append,signedL,bft];omega
 have H5:=Lh (bfy am (bfy (H4.out.2.1.trans an) (bfy ao (bfy ae aB))));clear am an s0 s1 ae aB;obtain⟨s0,s1⟩:=ao.d2;clear ao;dsimp only;go_wp2_with fail;go_loopw[22] (λu wr=>∃i:Nat,i<=N/\u=.int .i64 (i:Int)/\PenAt (λk=>k<a) wr a (L0++((l.take i).map bn.p).flatMap pX)/\(((l.take i).map bn.p).flatMap pX).length<=130*i/\PKept (λk=>k<a) a R wr) (λu _=>N-(intOf u).toNat)
 case atStart=>exact⟨0,bgi _,rfl,by simpa using H5.out.1,by simp,H5.out.2.1⟩
 case round=>
  obtain⟨i,hi,rfl,ax,af,D⟩:=hrel;by_cases ag:i<N
  ·have aO:(0:Int)<=(i:Int)/\(i:Int)<N:=by omega
   have aL:=Lh ag;have E:Bw w wr:=z.out.2.2.2.1.trans ((U4.out wr D).mono (by have:=z.out.2.2.2.2.2.2;omega))
   obtain⟨_,_,e,_,Ul⟩:=n.out.2.2.2.2.2.2.2.2.2.1.form;injection e with e1 e2 e3
   rw[<-e1]at Ul;clear e2 e3;obtain⟨x,pa,oa,hx,aM,c0,c1,c2,c3,c4,K,L,M⟩:=(Ul.below E).get (t:=i) (by rw[<-n.out.2.2.2.2.2.2.2.2.1];exact ag)
   clear Ul e1;subst aM;have aC:di wr x:=(n.out.2.2.2.2.2.2.2.2.2.2.1 x (bf3 hx)).below E;have ah:=n.out.2.2.2.2.2.2.2.2.2.2.2.1.2.2.2.1 x.p (List.mem_map.2 ⟨x,bf3 hx,rfl⟩);have j:(l.take (i+1)).map bn.p=(l.take i).map bn.p++[x.p]:=by
    rw[List.take_add_one,hx];simp
   obtain⟨L1,ap⟩:=Nm (((l.take i).map bn.p).flatMap pX);rw[<-ap]at ax af;have O:Hid ((L1++pX x.p=((l.take (i+1)).map bn.p).flatMap pX)/\(L1++pX x.p).length<=130*(i+1)/\L1.length<=130*256):=by
    have o:=QU ah.1;refine Lh ⟨?_,?_,by omega⟩
    ·rw[j,ap];simp
    rw[bft];omega
   clear ap j af;have HA:Hid (jC q x.p=true/\(0<=x.p.r/\x.p.r<=1073741824)):=by
    have o:=ah.2;simp only[openB,bf8,bf0]at o;exact Lh ⟨ah.1,o.2.1⟩
   have Q:=Lh (bfy ax (bfy D aC));clear ah ax D aC hx hi ag E;obtain⟨x_,F⟩:=Nm (x:bn);rw[<-F]at O HA Q;obtain⟨⟨⟨S,U,Y⟩,⟨Z,xa,xt,xu,xv⟩,xr⟩,X6,xz,X9,Yb⟩:=x;simp only at c0 c1 c2 c3 c4 K L M;go_upto_region 8 with fail;refine bg4 ?_
   iterate 9 go_step
   refine bg6 rfl _ _ _ rfl wr.heap.size (bn.mk ⟨⟨S,U,Y⟩,⟨Z,xa,xt,xu,xv⟩,xr⟩ X6 xz X9 Yb).cells rfl rfl 131 dh.cells (bg5 wr _) fK rfl (fV _) ?_;obtain⟨wx,ar⟩:=Nm ((wr.alloc (Obj.cells #[.string ⟨#[]⟩,.int .i64 0,.int .i64 0,.int .i64 0,.int .i64 0,.slice none 0 0,.complex .f64 0 0,.int .i64 0] 131)).setRow wr.heap.size (bn.mk ⟨⟨S,U,Y⟩,⟨Z,xa,xt,xu,xv⟩,xr⟩ X6 xz X9 Yb).cells);obtain⟨xb,au⟩:=Nm (wr.heap.size);have c:Hid (dw wx xb x_/\di wx x_/\PenAt (λk=>k<a) wx a (L0++L1)/\PKept (λk=>k<a) a R wx/\xb≠a/\(∀k,k<a->k<wx.heap.size)):=by
    obtain⟨k1,k2⟩:=jk wr (bn.mk ⟨⟨S,U,Y⟩,⟨Z,xa,xt,xu,xv⟩,xr⟩ X6 xz X9 Yb);have hl:=Q.out.1.lt;rw[ar,au,F];have hk:=Q.out.2.1.trans (PKept.of_below (X:=λk=>k<a) (b:=a) k2);rw[F]at Q;exact Lh ⟨k1,Q.out.2.2.below k2,Q.out.1.below k2,hk,by omega,HX.out _ hk⟩
   have ZP:Hid (∀d,dw d xb x_->D8 d xb (bn.mk ⟨⟨S,U,Y⟩,⟨Z,xa,xt,xu,xv⟩,xr⟩ X6 xz X9 Yb)):=by rw[F];exact Lh (λd h=>h.d8)
   have Yp:Hid (x_=(bn.mk ⟨⟨S,U,Y⟩,⟨Z,xa,xt,xu,xv⟩,xr⟩ X6 xz X9 Yb)):=Lh F;rw[<-ar,<-au];clear ar au F c0 c1 c2 c3 c4 K L M;have av:Hid (∀d,PKept (λk=>k<a) a wx d->dw d xb x_/\dB d qb q/\bZ d sb m (.slice (some ⟨pa,oa,none⟩) N sc)):=by
    refine Lh λd hK=>⟨hK.row c.out.1 (by decide) c.out.2.2.2.2.1,?_,?_⟩
    ·exact(c.out.2.2.2.1.trans hK).row z.out.2.1 (by decide) (by have:=z.out.2.2.2.2.1;omega)
    exact(c.out.2.2.2.1.trans hK).row z.out.2.2.1 (by decide) (by have:=z.out.2.2.2.2.2.1;omega)
   have aD:(bf.mk S U Y).rightB=true/\(fP.mk Z xa xt xu xv).rightB q=true:=by
    have h:=HA.out.1;rw[Yp.out]at h;simp only[jC,bf8]at h;exact⟨h.1,h.2.2.2⟩
   have aE:0<=xr/\xr<=1073741824:=by
    have h:=HA.out.2;rw[Yp.out]at h;exact h
   obtain⟨rn,rfl⟩:∃k:Nat,xr=(k:Int):=⟨xr.toNat,by omega⟩
   have Em:=Lh (bfy aD aE);clear aD aE;obtain⟨c0,c1,c2,c3,c4,K,L,M⟩:=ZP.out wx c.out.1;simp only at c0 c1 c2 c3 c4 K L M;go_wp2_with fail;refine(KC wx (λk=>k<a) a (L0++L1) ⟨S,U,Y⟩ Em.out.1.1 c.out.2.2.1 c.out.2.2.2.2.2 (by have:=O.out.2.2;have:=H5.out.2.2.2.2;rw[bft];omega)).mono ?_
   rintro e w6 ⟨rfl,uV,aF⟩;have H6:=Lh (bfy uV aF);clear uV aF c0 c1 c2 c3 c4 K L M;obtain⟨c0,c1,c2,c3,c4,K,L,M⟩:=ZP.out w6 (av.out w6 H6.out.2).1;simp only at c0 c1 c2 c3 c4 K L M;obtain⟨d0,d1,d2,d3,d4,d5⟩:=HD.out _ (av.out w6 H6.out.2).2.1;have aH:Hid (bC w6 X6 xt/\dN xz xu xv):=by
    have h:=c.out.2.1;have o:=c.out.2.2.1;rw[Yp.out]at h;exact Lh ⟨h.1.VZ o H6.out.2,h.2⟩
   dsimp only;go_wp2_with fail;refine(PV w6 (λk=>k<a) a ((L0++L1)++(bf.mk S U Y).bytes) q ⟨Z,xa,xt,xu,xv⟩ X6 xz n.out.2.2.2.2.2.2.2.2.2.2.2.2.1 Em.out.1.2 aH.out.1 aH.out.2 H6.out.1 (λk hk=>Nat.lt_of_lt_of_le (c.out.2.2.2.2.2 k hk) H6.out.2.size) (by have:=O.out.2.2;have:=H5.out.2.2.2.2;have:=qw Em.out.1.1;simp only[bft];omega)).mono ?_
   rintro e w7 ⟨rfl,aG,aI⟩;have H7:=Lh (bfy aG (H6.out.2.trans aI));clear aG aI c0 c1 c2 c3 c4 K L M d0 d1 d2 d3 d4 d5 aH;obtain⟨c0,c1,c2,c3,c4,K,L,M⟩:=ZP.out w7 (av.out w7 H7.out.2).1;simp only at c0 c1 c2 c3 c4 K L M;dsimp only;go_wp2_with fail;refine(pnumber_any w7 (λk=>k<a) a rn (((L0++L1)++(bf.mk S U Y).bytes++numberL Z)++signedL xa) (by have:=Em.out.2;omega) H7.out.1 (λk hk=>Nat.lt_of_lt_of_le (c.out.2.2.2.2.2 k hk) H7.out.2.size) ?_).mono ?_
   ·have o:=qw Em.out.1.1;have y:=wordL_length Z.toNat;have h3:=wordL_length (zig xa);have h4:=O.out.2.2;have h5:=H5.out.2.2.2.2;simp only[numberL,signedL,bft];omega
   rintro e w8 ⟨rfl,uX,aJ⟩;have j:((((L0++L1)++(bf.mk S U Y).bytes++numberL Z)++signedL xa)++wordL rn)=L0++((l.take (i+1)).map bn.p).flatMap pX/\(((l.take (i+1)).map bn.p).flatMap pX).length<=130*(i+1):=by
    obtain⟨o,y,-⟩:=O.out;rw[o]at y;refine⟨?_,y⟩;rw[<-o,Yp.out];simp only[pX,numberL,Int.toNat_natCast,bgz]
   rw[j.1]at uX;have H8:=Lh (bfy uX (bfy j.2 (c.out.2.2.2.1.trans (H7.out.2.trans aJ))));clear uX aJ j c0 c1 c2 c3 c4 K L M;dsimp only;go_wp2_with fail;have ag:=aL.out;exact⟨⟨i+1,by omega,by go_num,H8.out.1,H8.out.2.1,H8.out.2.2⟩,by simp[intOf];omega⟩
  obtain rfl:i=N:=by omega
  have E:Bw w wr:=z.out.2.2.2.1.trans ((U4.out wr D).mono (by have:=z.out.2.2.2.2.2.2;omega))
  rw[n.out.2.2.2.2.2.2.2.2.1,bgs]at ax;have Q:=Lh (bfy ax (bfy E (bfy af D)));clear ax D E af;go_wp2_with fail;refine(pbytes_any wr (λk=>k<a) a _ Q.out.1 ?_).mono ?_
  ·have o:=Q.out.2.2.1;have y:=H5.out.2.2.2.2;have h3:=n.out.2.2.2.2.2.2.2.2.1;rw[h3,bgs]at o;rw[bft];omega
  rintro e w9 ⟨ra,rc,rfl,o,y,h3,h4,h5⟩;have j:L0++(l.map bn.p).flatMap pX=yH ⟨m,l.map bn.p⟩:=by
   rw[H5.out.2.2.2.1,n.out.2.2.2.2.2.2.2.2.1];simp[yH]
  rw[j]at o h4;have H9:=Lh (bfy j (bfy o (bfy y (bfy h3 (bfy h4 h5)))));clear o y h3 h4 h5 j;dsimp only;go_wp2_with fail;rw[n.out.2.2.2.2.2.2.2.2.2.2.2.2.2];obtain⟨h0,o,y,h3,h4,h5⟩:=H9.out;have hs:=Q.out.2.1.size;exact⟨ra,rc,by rw[<-h0];rfl,o,y,h3,by first | exact h4.mono hs | skip,Q.out.2.1.trans (h5.mono hs)⟩
end Go.Proofs.YtgfmbkoieacgoaaGreatDoor
set_option maxRecDepth 100000
set_option maxHeartbeats 1600000
namespace Go.Proofs.YtgfmbkoieacgoaaGreatDoor
open Go Go.RowKit Go.Proofs.Tryz
def q11:bu:=⟨1,10,0,0,2,0⟩
def a11:ItemL:=⟨1,[97],3,5⟩
def z11:ItemL:=⟨0,[],0,0⟩
def m11:ItemL:=⟨2,[],10,0⟩
def yE:dE:=⟨false,zeroI,⟨[97],0,10⟩,1,[5]⟩
def p11:dE:=⟨true,a11,bF,0,[]⟩
def t11:List (BitVec 8):=[97,32,48,46,46,49,48,32,35,49,32,53]
def u11:List (BitVec 8):=[108,97,116,101,32,101,118,101,110,116,32,97,32,51,32,53]
theorem Qm:q11.rightB=true:=by decide+kernel
theorem Tm:(dR q11 jK [] 0 [a11,z11,m11,a11]).outs=[yE,p11]:=by decide+kernel
theorem Xi:(dR q11 jK [] 0 [a11,z11,m11,a11]).n=3:=by decide+kernel
theorem Jl:yE.told=t11/\p11.told=u11:=by decide+kernel
theorem Tj:yE.rightB=true:=by decide+kernel
theorem Ql:qI t11=(yE,true):=by decide+kernel
theorem Ti:(vk [yE,p11]).length=1:=by decide+kernel
theorem Vt:(TapeL.mk yE.bytes 0).out.1=yE:=by decide+kernel
theorem LK:fQ q11 ⟨-1,[⟨⟨[97],0,10⟩,⟨1,5,[],0,0⟩,0⟩]⟩=true:=by decide+kernel
theorem Tn:(TapeL.mk (yH ⟨-1,[⟨⟨[97],0,10⟩,⟨1,5,[],0,0⟩,0⟩]⟩) 0).rZ q11=(⟨-1,[⟨⟨[97],0,10⟩,⟨1,5,[],0,0⟩,0⟩]⟩,0):=by decide+kernel
theorem SrcP.row {w w':World} {a:Option Addr} {n b:Nat} {m:List (BitVec 8)}(h:SrcP w a n m)(k:bZ w b 0 bM)(l:w.grownBy w' (some b)):SrcP w' a n m:=by
 rcases h with h | ⟨d,off,o,j⟩
 ·exact .inl h
 by_cases p:n=0
 ·exact .inl p
 by_cases e:d=b
 ·subst e;have c:=j 0 (by omega)
  rw[cell_of_row _ _ _ _ _ _ k]at c
  match off,c with
  | 0,c=>simp[B]at c
  | 1,c=>simp[B,bM]at c
  | off+2,c=>simp at c
 exact .inr ⟨d,off,o,λi q=>l.cell (j i q) (by simpa using e)⟩
def RdB(m:List (BitVec 8))(w:World)(v:Value):Prop:=∃a c,v=.slice a m.length c/\(a=none->c=0)/\SrcP w a m.length m
def GX(s:df)(w:World)(v:Value):Prop:=∃sv,v=.tuple #[sv,.int .i64 0]/\gG w sv s
theorem RdB.below {m:List (BitVec 8)} {w w':World} {v:Value}(h:RdB m w v)(b:Bw w w'):RdB m w' v:=by
 obtain⟨a,c,d,e,j⟩:=h;exact⟨a,c,d,e,j.below b⟩
theorem RdB.store {m:List (BitVec 8)} {w w':World} {v:Value} {b:Nat}(h:RdB m w v)(d:bZ w b 0 bM)(e:w.grownBy w' (some b)):RdB m w' v:=by
 obtain⟨a,c,j,k,l⟩:=h;exact⟨a,c,j,k,l.row d e⟩
theorem GX.below {s:df} {w w':World} {v:Value}(h:GX s w v)(a:Bw w w'):GX s w' v:=by
 obtain⟨b,c,d⟩:=h;exact⟨b,c,d.below a⟩
theorem GX.store {s:df} {w w':World} {v:Value} {b:Nat}(h:GX s w v)(a:bZ w b 0 bM)(c:w.grownBy w' (some b)):GX s w' v:=by
 obtain⟨d,e,j⟩:=h;exact⟨d,e,j.store a c⟩
def Wj(B:Nat)(m:List (BitVec 8))(s:df):List (Nat × (Nat->World->Value->Prop)):=
 [(3,λ_ w v=>RdB m w v),(4,λ_ w v=>GX s w v),(5,λ_ w v=>GX s w v),(6,λ_ w v=>gG w v s),(8,WR B (kK.mk s [] 1 0))]
theorem Wl {B:Nat} {m:List (BitVec 8)} {s:df}:∀p∈Wj B m s,∀k w w' v,Bw w w'->p.2 k w v->p.2 k w' v:=by
 intro p e k w w' v a h;simp only[Wj,bf2,bf9,or_false]at e;rcases e with rfl | rfl | rfl | rfl | rfl
 ·exact RdB.below h a
 ·exact GX.below h a
 ·exact GX.below h a
 ·exact gG.below h a
 obtain⟨b,j,l,c⟩:=h;refine⟨b,j,l,?_⟩
 split at c
 ·rename_i d;rw[if_pos d];exact c.below a
 rename_i d;rw[if_neg d];obtain⟨m,n,o,q⟩:=c;exact⟨m,n,o.below a,q.below a⟩
theorem PN {B:Nat} {m:List (BitVec 8)} {s:df} {w w':World} {l:List Oper} {a:Act}(b:Bw w w'):∀p∈Wj B m s,8=p.1∨∀d,dstAt l p.1=some d->p.2 0 w (a.eval (.tmp d))->p.2 1 w' (a.eval (.tmp d)):=by
 intro p c;simp only[Wj,bf2,bf9,or_false]at c;rcases c with rfl | rfl | rfl | rfl | rfl
 ·exact .inr λd _ h=>RdB.below h b
 ·exact .inr λd _ h=>GX.below h b
 ·exact .inr λd _ h=>GX.below h b
 ·exact .inr λd _ h=>gG.below h b
 exact .inl rfl
theorem Sj {B t:Nat} {q:List (BitVec 8)} {s:df} {w w':World} {b:Nat} {m:Int} {j:Value} {l:List Oper} {a:Act}(r:dstAt l 8=some t)(u:a.eval (.tmp t)=.pointer (some ⟨b,0,none⟩))(c:bZ w b 0 bM)(k:B<=b)(e:w.grownBy w' (some b))(x:bZ w' b m j)
  (y:gG w' (.agg #[.int .i64 m,j]) s):∀p∈Wj B q s,9=p.1∨∀d,dstAt l p.1=some d->p.2 1 w (a.eval (.tmp d))->p.2 2 w' (a.eval (.tmp d)):=by
 intro p n;simp only[Wj,bf2,bf9,or_false]at n;rcases n with rfl | rfl | rfl | rfl | rfl
 ·exact .inr λd _ h=>RdB.store h c e
 ·exact .inr λd _ h=>GX.store h c e
 ·exact .inr λd _ h=>GX.store h c e
 ·exact .inr λd _ h=>gG.store h c e
 refine .inr λd o _=>?_;rw[r]at o;cases o
 refine⟨b,u,k,?_⟩;rw[if_neg (by decide)]
 exact⟨m,j,x,y⟩
theorem yieldsIf_load_at {P:Program} {o:Oper} {a:Act} {b:Array Oper} {S:World->Prop}(c:Region.wanted o (yielded b a.tmps)=true)(ty:TypeId)(x:Operand)(d:o.op=.load ty x)(A:Addr)(e:a.eval x=.pointer (some A)) {V:Value}
  (h:∀w,S w->(loadVar ty A).run P w=.ok V w):YieldsIf P b S o V a:=by
 refine .inl ⟨c,λw j=>?_⟩;unfold execOp;simp only[d,e,Instr.loadAt,Instr.sureAddr,Sem.run_bind,Sem.run_pure,Result.andThen_ok,h w j]
theorem JE {w:World} {b o t:Nat} {l:List bH} {x:bH}(h:dZ w (some ⟨b,o,none⟩) l)(c:l[t]? =some x):(loadVar 37 ⟨b,o+t*10,none⟩).run prog w=.ok (.agg x.cells) w:=by
 have a:∀w,(isAgg 37).run prog w=.ok true w:=Tryz.isAgg37;have d:∀w,(sizeOf 37).run prog w=.ok 10 w:=sizeOf37;rcases h with h | ⟨m,n,e,h⟩
 ·rw[h]at c;simp at c
 cases e
 have:=run_loadCells_list (P:=prog) w ⟨b,o+t*10,none⟩ x.cells.toList (λj v k=>by
  rw[addr_add];exact h t x c j v (by simpa using k))
 rw[show x.cells.toList.length=10 from rfl]at this;simp[loadVar,a,d,this,Result.andThen]
theorem fM.two {w:World} {v:Value} {n p:dE}(h:fM w v [n,p]):∃b o c d e,v=.slice (some ⟨b,o,none⟩) 2 c/\2<=c/\d.o=n/\e.o=p/\dZ w (some ⟨b,o,none⟩) [d,e]/\dL w d/\dL w e:=by
 obtain⟨a,c,l,r,s,k,q,j⟩:=h
 match l,j with
 | [d,e],j=>
  simp only[bgc,bge,List.cons.injEq,and_true]at j;have m:=k;rcases k with k | ⟨b,o,u,_⟩
  ·cases k
  subst u;exact⟨b,o,c,d,e,r,s,j.1.symm,j.2.symm,m,q d (by simp),q e (by simp)⟩
theorem dZ.ofRow {w:World} {g:Nat} {x:bH} {t:TypeId} {b:Nat × Nat}(h:w.heap[g]? =some (.cells x.cells t b)):dZ w (some ⟨g,0,none⟩) [x]:=by
 refine .inr ⟨g,0,rfl,λi y a j v c=>?_⟩
 match i,a with
 | 0,a=>
  cases a
  rw[cell_of_row _ _ _ _ _ _ h];simpa using c
 | i+1,a=>simp at a
theorem Pm(a:Option Addr)(n c i:Nat)(h:i<=c)(w:World):
  (Instr.slice 27 (.slice a n c) none (some (.int .i64 (i:Int))) none).run prog w=.ok (.slice a i c) w:=by
 have b:∀w,(sizeOf 37).run prog w=.ok 10 w:=sizeOf37;cases a <;> simp[Instr.slice,run_underlying underlying27,Instr.sliceBounds,run_sliceBound,b,h,sN]
theorem gG.row {w:World} {m:Int} {b:Value} {s:df}(h:gG w (.agg #[.int .i64 m,b]) s):∃a c,b=.slice a s.panes.length c:=by
 obtain⟨_,a,c,l,d,_,_,e⟩:=h.open;exact⟨a,c,by rw[d,e,bfz]⟩
theorem BC {w:World} {b:Nat} {m:Int} {a:Value}(h:bZ w b m a):(loadVar 72 ⟨b,0,none⟩).run prog w=.ok (.agg #[.int .i64 m,a]) w:=
 run_loadVar_row w b _ _ _ _ _ h underlying72 rfl bP
theorem Kz {o:Oper} {a:Act} {w:World} {K:Act->World->Prop} {Q:Exit->Act->World->Prop}(l m n p:Operand)(q:o.op=.buildSlice 24 4 #[(0,l),(1,m),(2,n),(3,p)])(c d e j:ItemL)(r:a.eval l=.agg c.cells)(s:a.eval m=.agg d.cells)(u:a.eval n=.agg e.cells)(x:a.eval p=.agg j.cells)
  (h:K (a.put o.dst (.slice (some ⟨w.heap.size,0,none⟩) 4 4)) (w.alloc (.cells (c.cells++d.cells++e.cells++j.cells) 32))):o.wp prog a w K Q:=by
 have y:Instr.fill (λi=>some (i*4,4)) ((Array.range (4*4)).map ((Value.agg #[.int .i64 0,.string ⟨#[]⟩,.int .i64 0,.int .i64 0]).cells[· % (Value.agg #[.int .i64 0,.string ⟨#[]⟩,.int .i64 0,.int .i64 0]).cells.size]!)) [(0,.agg c.cells),(1,.agg d.cells),(2,.agg e.cells),(3,.agg j.cells)]=some (c.cells++d.cells++e.cells++j.cells):=by kernel_rfl
 obtain⟨i,z,k,b,D⟩:=info_parts rP;refine wp_buildSlice 24 32 4 _ q (c.cells++d.cells++e.cells++j.cells) i _ underlying24 z k (by rw[b];decide) (by rw[b];decide) ?_ h
 rw[b];simp only[bgb,bgc,bge,r,s,u,x];exact y
theorem ItemsAt.four {w:World} {g:Nat} {c d k l:ItemL}(h:w.heap[g]? =some (.cells (c.cells++d.cells++k.cells++l.cells) 32 (0,0))):ItemsAt w (some ⟨g,0,none⟩) [c,d,k,l]:=by
 refine .inr ⟨g,0,rfl,λi u b j v a=>?_⟩;have m:j<4:=by
  have:=(Array.getElem?_eq_some_iff.1 a).1;simpa[ItemL.cells]using this
 have e:c.cells++d.cells++k.cells++l.cells=#[.int .i64 c.kind,Sv c.key,.int .i64 c.time,.int .i64 c.value,.int .i64 d.kind,Sv d.key,.int .i64 d.time,.int .i64 d.value,.int .i64 k.kind,Sv k.key,.int .i64 k.time,.int .i64 k.value,.int .i64 l.kind,Sv l.key,.int .i64 l.time,.int .i64 l.value]:=rfl;rw[cell_of_row _ _ _ _ _ _ h,e]
 match i,b with
 | 0,b=>
  simp only[bgp,bf5]at b;subst b
  match j,a with
  | 0,a=>exact a
  | 1,a=>exact a
  | 2,a=>exact a
  | 3,a=>exact a
  | j+4,_=>omega
 | 1,b=>
  simp only[List.getElem?_cons_succ,bgp,bf5]at b;subst b
  match j,a with
  | 0,a=>exact a
  | 1,a=>exact a
  | 2,a=>exact a
  | 3,a=>exact a
  | j+4,_=>omega
 | 2,b=>
  simp only[List.getElem?_cons_succ,bgp,bf5]at b;subst b
  match j,a with
  | 0,a=>exact a
  | 1,a=>exact a
  | 2,a=>exact a
  | 3,a=>exact a
  | j+4,_=>omega
 | 3,b=>
  simp only[List.getElem?_cons_succ,bgp,bf5]at b;subst b
  match j,a with
  | 0,a=>exact a
  | 1,a=>exact a
  | 2,a=>exact a
  | 3,a=>exact a
  | j+4,_=>omega
 | i+4,b=>simp at b
theorem zF {c:Array Oper} {b:List Oper} {o:Oper} {a:Act} {w:World} {Q:Exit->Act->World->Prop}(q:o.guard=none)(d e j k:Operand)(r:o.op=.buildSlice 24 4 #[(0,d),(1,e),(2,j),(3,k)])(l m n p:ItemL)(s:a.eval d=.agg l.cells)(u:a.eval e=.agg m.cells)(x:a.eval j=.agg n.cells)(y:a.eval k=.agg p.cells)
  (h:wpList prog c Q b (a.put o.dst (.slice (some ⟨w.heap.size,0,none⟩) 4 4)) (w.alloc (.cells (l.cells++m.cells++n.cells++p.cells) 32))):wpList prog c Q (o::b) a w:=
 wpList_plain q λ_ z=>Kz d e j k r l m n p s u x y (z _ _ h)
def s11:df:=⟨-1,[⟨⟨[97],0,10⟩,⟨1,5,[],0,0⟩,0⟩]⟩
theorem NV:jo q11 jK [a11]=⟨s11,[],1,0⟩:=by kernel_rfl
theorem wp_slice1_I {o:Oper} {a:Act} {w:World} {K:Act->World->Prop} {Q:Exit->Act->World->Prop}(e:Operand)(j:o.op=.buildSlice 24 1 #[(0,e)])(c:ItemL)(k:a.eval e=.agg c.cells)
  (h:K (a.put o.dst (.slice (some ⟨w.heap.size,0,none⟩) 1 1)) (w.alloc (.cells c.cells 32))):o.wp prog a w K Q:=by
 have l:Instr.fill (λi=>some (i*4,4)) ((Array.range (1*4)).map ((Value.agg #[.int .i64 0,.string ⟨#[]⟩,.int .i64 0,.int .i64 0]).cells[· % (Value.agg #[.int .i64 0,.string ⟨#[]⟩,.int .i64 0,.int .i64 0]).cells.size]!)) [(0,.agg c.cells)]=some c.cells:=by kernel_rfl
 obtain⟨i,m,d,b,n⟩:=info_parts rP;refine wp_buildSlice 24 32 1 _ j c.cells i _ underlying24 m d (by rw[b];decide) (by rw[b];decide) ?_ h
 rw[b];simp only[bgb,bgc,bge,k];exact l
theorem Jw {w w':World} {g b:Nat} {a:ItemL}(h:ItemsAt w (some ⟨g,0,none⟩) [a])(m:bZ w b 0 bM)(n:w.grownBy w' (some b)):ItemsAt w' (some ⟨g,0,none⟩) [a]:=by
 rcases h with h | ⟨s,o,p,h⟩
 ·cases h
 cases p
 have l:=h 0 a rfl 1 _ rfl;have c:=block_lt_of_cell l;have d:g≠b:=by
  rintro rfl;have e:some bM=some (Sv a.key):=m.d2.2.symm.trans l;simp[Sv,bM]at e
 have k:=n.block g c (by simpa using d)
 refine .inr ⟨g,0,rfl,λi x q j v r=>?_⟩;rw[<-h i x q j v r];unfold World.cell?;simp only[k]
theorem KO(w:World)(hW:lC w)(hL:nT w):Calls prog 7 #[] w (Below0 w (.bool true)):=by
 have mixed:prog.follows .mixedOrders=true:=by kernel_rfl
 have H0:=Lh (bfy hW hL);clear hW hL;go_enter func7,ntmps7;go_upto_region 1 with fail;refine bg4 ?_
 iterate 6 go_step
 refine bg6 rfl _ _ _ rfl w.heap.size q11.cells rfl rfl 23 #[.int .i64 0,.int .i64 0,.int .i64 0,.int .i64 0,.int .i64 0,.int .i64 0] (bg5 w _) MV rfl (QX _) ?_;obtain⟨w1,ah⟩:=Nm ((w.alloc (Obj.cells #[.int .i64 0,.int .i64 0,.int .i64 0,.int .i64 0,.int .i64 0,.int .i64 0] 23)).setRow w.heap.size q11.cells);obtain⟨qb,XW⟩:=Nm (w.heap.size);have H1:Hid (dB w1 qb q11/\Bw w w1):=by
  obtain⟨k1,k2⟩:=GG w q11;rw[ah,XW];exact Lh ⟨k1,k2⟩
 rw[<-ah,<-XW];clear ah XW;obtain⟨M,ab⟩:=Nm ((w1.alloc (.cells #[.int .i64 0,.string ⟨#[]⟩,.int .i64 0,.int .i64 0] 32)).alloc (.cells #[.int .i64 0,.string ⟨#[]⟩,.int .i64 0,.int .i64 0] 32));obtain⟨eb,ae⟩:=Nm (w1.heap.size);obtain⟨mb,ai⟩:=Nm (w1.heap.size+1);have ay:(w1.alloc (.cells #[.int .i64 0,.string ⟨#[]⟩,.int .i64 0,.int .i64 0] 32)).heap.size=w1.heap.size+1:=bg w1 _;have H2:Hid (lq M eb zeroI/\lq M mb zeroI/\Bw w1 M/\w1.heap.size=eb/\mb=eb+1):=by
  have k1:=(Below.refl _ w1).alloc (bfx _) (.cells #[.int .i64 0,.string ⟨#[]⟩,.int .i64 0,.int .i64 0] 32);have k2:=(Below.refl _ (w1.alloc (.cells #[.int .i64 0,.string ⟨#[]⟩,.int .i64 0,.int .i64 0] 32))).alloc (bfx _) (.cells #[.int .i64 0,.string ⟨#[]⟩,.int .i64 0,.int .i64 0] 32);refine Lh ⟨?_,?_,?_,ae.symm,by omega⟩
  ·rw[ab,ae];exact lq.below (bg5 w1 _) k2
  ·rw[ab,ai,<-ay];exact bg5 _ _
  rw[ab];exact Tb k1 k2
 go_upto_region 2 with fail;refine bg4 ?_
 iterate 12 go_step
 rw[<-ab,<-ai,<-ae];clear ab ae ai ay;refine bg6 rfl _ _ _ rfl eb a11.cells rfl rfl 32 zeroI.cells H2.out.1 item_size rfl (item_one a11) ?_;obtain⟨w3,aj⟩:=Nm (M.setRow eb a11.cells);have H3:Hid (lq w3 eb a11/\lq w3 mb zeroI/\Bw w1 w3/\w1.heap.size=eb/\mb=eb+1):=by
  obtain⟨k1,k2,k3,k4,k5⟩:=H2.out;have I:=bD M eb a11.cells;rw[aj];exact Lh ⟨setRow_heap M eb _ _ _ _ k1,(I.block mb k2.lt (by simp;omega)).trans k2,k3.trans ⟨I.os,I.tape,I.output,I.size,λk hk=>I.block k (by have:=k3.size;omega) (by simp;omega)⟩,k4,k5⟩
 rw[<-aj];clear aj H2;refine bg6 rfl _ _ _ rfl mb m11.cells rfl rfl 32 zeroI.cells H3.out.2.1 item_size rfl (item_one m11) ?_;obtain⟨w4,ak⟩:=Nm (w3.setRow mb m11.cells);have H4:Hid (dB w4 qb q11/\lq w4 eb a11/\lq w4 mb m11/\Bw w w4):=by
  obtain⟨k1,k2,k3,k4,k5⟩:=H3.out;have I:=bD w3 mb m11.cells;have s:Bw w1 (w3.setRow mb m11.cells):=k3.trans ⟨I.os,I.tape,I.output,I.size,λk hk=>I.block k (by have:=k3.size;omega) (by simp;omega)⟩
  rw[ak];exact Lh ⟨H1.out.1.below s,(I.block eb k1.lt (by simp;omega)).trans k1,setRow_heap w3 mb _ _ _ _ k2,H1.out.2.trans (s.mono H1.out.2.size)⟩
 rw[<-ak];clear ak H3 H1;have OM:Hid (∀m,Bw w4 m->D6 m qb 1 10 0 0 2 0/\DX m eb 1 [97] 3 5/\DX m mb 2 [] 10 0):=Lh (λm h=>⟨(H4.out.1.below h).d6,(H4.out.2.1.below h).dx,(H4.out.2.2.1.below h).dx⟩);have aU:Hid (∀m g,ItemsAt m (some ⟨g,0,none⟩) [a11,z11,m11,a11]->Calls prog 9 #[.agg #[.int .i64 1,.int .i64 10,.int .i64 0,.int .i64 0,.int .i64 2,.int .i64 0],.slice (some ⟨g,0,none⟩) 4 4] m (λe M=>∃ov,e=.returned (.tuple #[ov,.int .i64 3])/\fM M ov [yE,p11]/\Bw m M)):=by
  refine Lh (λm g hI=>?_);have h:=x9 m q11 (some ⟨g,0,none⟩) 4 [a11,z11,m11,a11] hI (by decide) (by decide) (by decide) (λh=>by cases h)
  unfold zK at h;rw[Tm,Xi]at h;exact h
 have eu:Hid (∀m,nT m->Calls prog 20 #[.string ⟨#[97,32,48,46,46,49,48,32,35,49,32,53]⟩] m (λe M=>∃tv ht,e=.returned (.tuple #[.agg #[.bool false,.int .i64 0,.string ⟨#[]⟩,.int .i64 0,.int .i64 0,.string ⟨#[97]⟩,.int .i64 0,.int .i64 10,.int .i64 1,tv],.bool true])/\dL M ⟨yE,tv,ht⟩/\Bw m M)):=by
  refine Lh (λm hL=>?_);have h:=KY m t11 (by decide) hL
  rw[Ql]at h;refine(show Calls prog 20 #[.string ⟨#[97,32,48,46,46,49,48,32,35,49,32,53]⟩] m (zM m (yE,true))from h).mono ?_;rintro e M ⟨⟨o,tv,ht⟩,hx,rfl,z,s⟩;have hx:o=yE:=hx;subst hx;exact⟨tv,ht,rfl,z,s⟩
 have aV:Hid (∀m,m.heap[w4.heap.size]? =some (.cells (a11.cells++z11.cells++m11.cells++a11.cells) 32 (0,0))->ItemsAt m (some ⟨w4.heap.size,0,none⟩) [a11,z11,m11,a11]):=Lh (λm h=>ItemsAt.four h);obtain⟨⟨d0,d1,d2,d3,d4,d5⟩,⟨e0,e1,e2,e3⟩,⟨f0,f1,f2,f3⟩⟩:=OM.out w4 Br;go_upto_region 3 with fail;refine bg4 ?_
 iterate 15 go_step
 refine zF rfl (.tmp 21) (.tmp 22) (.tmp 23) (.tmp 24) rfl a11 z11 m11 a11 rfl rfl rfl rfl ?_;obtain⟨w5,al⟩:=Nm (w4.alloc (.cells (a11.cells++z11.cells++m11.cells++a11.cells) 32));have H5:Hid (ItemsAt w5 (some ⟨w4.heap.size,0,none⟩) [a11,z11,m11,a11]/\Bw w4 w5):=by
  rw[al];exact Lh ⟨aV.out _ (bg5 w4 _),(Below.refl _ w4).alloc (bfx _) _⟩
 rw[<-al];clear al d0 d1 d2 d3 d4 d5 e0 e1 e2 e3 f0 f1 f2 f3;go_wp2_with fail;refine(aU.out w5 w4.heap.size H5.out.1).mono ?_;rintro e w6 ⟨ov,rfl,uT,am⟩;have U3:Bw w w6:=H4.out.2.2.2.trans ((H5.out.2.mono (H4.out.2.2.2.size)).trans (am.mono (bgn H4.out.2.2.2.size H5.out.2.size)));have H6:=Lh (bfy uT (bfy (H5.out.2.trans (am.mono H5.out.2.size)) U3));clear uT am U3;dsimp only;go_wp2_with fail;refine(eu.out w6 (H0.out.2.below H6.out.2.2)).mono ?_;rintro e w7 ⟨tv,ht,rfl,aO,az⟩;have H7:=Lh (bfy aO az);clear aO az;obtain⟨ta,tc,YC,-,-⟩:=id H7.out.1;have YC:tv=.slice ta 1 tc:=YC;subst YC;dsimp only;go_upto_region 6 with fail;obtain⟨U,aa⟩:=Nm ((w7.alloc (.cells #[.bool false,.int .i64 0,.string ⟨#[]⟩,.int .i64 0,.int .i64 0,.string ⟨#[97]⟩,.int .i64 0,.int .i64 10,.int .i64 1,.slice ta 1 tc] 37)).alloc (.cells #[.slice none 0 0] 51));obtain⟨xb,an⟩:=Nm (w7.heap.size);obtain⟨pb,af⟩:=Nm (w7.heap.size+1);have H8:Hid (U.heap[xb]? =some (.cells #[.bool false,.int .i64 0,.string ⟨#[]⟩,.int .i64 0,.int .i64 0,.string ⟨#[97]⟩,.int .i64 0,.int .i64 10,.int .i64 1,.slice ta 1 tc] 37 (0,0))/\PenAt (λk=>k<pb) U pb []/\Bw w7 U/\U.heap.size=pb+1/\xb<pb/\w7.heap.size<=pb):=by
  have hs:(w7.alloc (.cells #[.bool false,.int .i64 0,.string ⟨#[]⟩,.int .i64 0,.int .i64 0,.string ⟨#[97]⟩,.int .i64 0,.int .i64 10,.int .i64 1,.slice ta 1 tc] 37)).heap.size=w7.heap.size+1:=bg w7 _;refine Lh ⟨?_,?_,?_,?_,by omega,by omega⟩
  ·rw[aa,an,heap_alloc_old _ _ (by rw[hs];omega)]
   exact bg5 w7 _
  ·rw[aa,af,<-hs];exact PenAt.new _ _
  ·rw[aa];exact((Below.refl _ w7).alloc (bfx _) _).alloc (by rw[hs];omega) _
  rw[aa,bg,hs,af]
 rw[<-aa,<-af,<-an];clear aa af an;have aW:Hid (Calls prog 25 #[.pointer (some ⟨pb,0,none⟩),.agg #[.bool false,.int .i64 0,.string ⟨#[]⟩,.int .i64 0,.int .i64 0,.string ⟨#[97]⟩,.int .i64 0,.int .i64 10,.int .i64 1,.slice ta 1 tc]] U (PenEnd (λk=>k<pb) pb U yE.bytes (.bool true))):=by
  have h:=SI U (λk=>k<pb) pb [] ⟨yE,.slice ta 1 tc,ht⟩ (dL.below H7.out.1 H8.out.2.2.1) ⟨show yE.item.key.length<=1000000 by decide,show yE.w.key.length<=1000000 by decide,show yE.v.length<=1000000 by decide⟩ (show ∀n∈yE.v,-9223372036854775808<=n/\n<=9223372036854775807 by decide) H8.out.2.1 (λk hk=>by have:=H8.out.2.2.2.1;omega) (by decide)
  rw[if_pos Tj,Tj]at h;exact Lh h
 have N:=H8.out.1;have e0:U.cell? ⟨xb,0,none⟩=some (.bool false):=by rw[cell_of_row _ _ _ _ _ _ N];rfl
 have e1:U.cell? ⟨xb,1,none⟩=some (.int .i64 0):=by rw[cell_of_row _ _ _ _ _ _ N];rfl
 have e2:U.cell? ⟨xb,2,none⟩=some (.string ⟨#[]⟩):=by rw[cell_of_row _ _ _ _ _ _ N];rfl
 have e3:U.cell? ⟨xb,3,none⟩=some (.int .i64 0):=by rw[cell_of_row _ _ _ _ _ _ N];rfl
 have e4:U.cell? ⟨xb,4,none⟩=some (.int .i64 0):=by rw[cell_of_row _ _ _ _ _ _ N];rfl
 have e5:U.cell? ⟨xb,5,none⟩=some (.string ⟨#[97]⟩):=by rw[cell_of_row _ _ _ _ _ _ N];rfl
 have e6:U.cell? ⟨xb,6,none⟩=some (.int .i64 0):=by rw[cell_of_row _ _ _ _ _ _ N];rfl
 have e7:U.cell? ⟨xb,7,none⟩=some (.int .i64 10):=by rw[cell_of_row _ _ _ _ _ _ N];rfl
 have e8:U.cell? ⟨xb,8,none⟩=some (.int .i64 1):=by rw[cell_of_row _ _ _ _ _ _ N];rfl
 have e9:U.cell? ⟨xb,9,none⟩=some (.slice ta 1 tc):=by rw[cell_of_row _ _ _ _ _ _ N];rfl
 clear N;go_wp2_with fail;refine aW.out.mono ?_;rintro e Z ⟨rfl,uY,aA⟩;have H9:=Lh (bfy uY aA);clear uY aA e0 e1 e2 e3 e4 e5 e6 e7 e8 e9;dsimp only;have oV:Bw w4 U:=by
  have O:=H6.out.2.1;have h2:=O.trans (H7.out.2.mono O.size);exact h2.trans (H8.out.2.2.1.mono h2.size)
 have Z9:Hid (∀m,Bw Z m->D6 m qb 1 10 0 0 2 0/\DX m eb 1 [97] 3 5):=by
  have h0:w4.heap.size<=pb:=by have O:=H6.out.2.1.size;have h2:=H7.out.2.size;have h3:=H8.out.2.2.2.2.2;omega
  have hq:dB Z qb q11:=H9.out.2.row (H4.out.1.below oV) (by decide) (by have:=H4.out.1.lt;omega)
  have he:lq Z eb a11:=H9.out.2.row (H4.out.2.1.below oV) (by decide) (by have:=H4.out.2.1.lt;omega)
  exact Lh (λm h=>⟨(hq.below h).d6,(he.below h).dx⟩)
 have aX:Hid (Bw Z Z.drew):=Lh ((Below.refl _ Z).drew);have OA:Hid (∀m,Calls prog 36 #[] m (λe ac=>e=.returned (.agg #[.int .i64 (-1),bM])/\Bw m ac)):=Lh (λm=>JL m);have OO:Hid (∀m g,ItemsAt m (some ⟨g,0,none⟩) [a11]->Calls prog 35 #[.agg #[.int .i64 1,.int .i64 10,.int .i64 0,.int .i64 0,.int .i64 2,.int .i64 0],.agg #[.int .i64 (-1),.slice none 0 0],.slice (some ⟨g,0,none⟩) 1 1] m (KG m ⟨s11,[],1,0⟩)):=by
  refine Lh (λm g hI=>?_);have h:=JO m q11 (-1) (.slice none 0 0) [] (some ⟨g,0,none⟩) 1 [a11] (cZ.nil _) (λy Q=>by simp at Q) ⟨λx hx=>by simp at hx,by simp⟩ hI (by decide) (by decide)
  rw[show(⟨-1,([]:List bn).map bn.p⟩:df)=jK from rfl,NV]at h;exact h
 obtain⟨VE,aB⟩:=Nm (Value.agg a11.cells);have HV:Hid (VE=Value.agg a11.cells):=Lh aB;clear aB oV;go_upto_region 7 with fail;go_cut[10]from 10 to 47 (λaY wx=>∃sb m1 YH,aY=.pointer (some ⟨sb,0,none⟩)/\bZ wx sb m1 YH/\gG wx (.agg #[.int .i64 m1,YH]) s11/\Bw Z wx)
 case first=>
  refine wp_region_skipA (λi=>([]:List Nat).contains i) (by kernel_rfl) (NoF (NoF [some 0,some 1,none,none,none])) [10,11] (PP ((Value.agg #[.int .i64 1,.int .i64 10,.int .i64 0,.int .i64 0,.int .i64 2,.int .i64 0])::(Value.agg #[.int .i64 (-1),.slice none 0 0])::VE::([undef,undef,undef,undef,undef,.int .i64 1,.int .i64 0,undef,undef,undef,.int .i64 1,.int .i64 0]:List Value)) ((3,λ_ w v=>∃g,v=Value.slice (some ⟨g,0,none⟩) 1 1/\ItemsAt w (some ⟨g,0,none⟩) [a11])::Wn 4 Z.heap.size (kK.mk s11 [] 1 0))) (λ_ m=>Bw Z m) (λw m=>Bw w m) (vK _ _ (List.forall_mem_cons.2 ⟨λk w m v s h=>(by obtain⟨gg,O,h2⟩:=h;exact⟨gg,O,h2.below s⟩),Wp⟩)) (by kernel_rfl) (by kernel_rfl) (by kernel_rfl) aX.out (λ_=>⟨rfl,rfl,rfl,rfl,rfl,rfl,rfl,rfl,rfl,rfl,rfl,rfl,rfl,rfl,rfl,trivial⟩) (λ_ h=>by simp at h) ?_ ?_
  ·refine ⟨?_,?_,?_,?_,?_,?_,?_,?_,?_,?_,?_,?_,?_,?_,?_,trivial⟩<;>(first|(intro _ _ a m z XR J K u;guard_hyp m:World)|intro _ a m z XR J K u)<;>replace XR:=Lh XR<;>replace J:=Lh J
   have q1:=FaA XR 1 qb 0;obtain⟨⟨d0,d1,d2,d3,d4,d5⟩,_⟩:=Z9.out m z;rotate_left
   ·have HS:=Lh (OA.out m);go_step;refine HS.out.mono ?_;rintro e Y ⟨rfl,s⟩;exact u _ _ rfl (Tb z s) s
   ·have q2:=FaA XR 2 eb 0;obtain⟨_,⟨d0,d1,d2,d3⟩⟩:=Z9.out m z;go_step;exact u _ _ HV.out.symm z Br
   ·obtain ⟨L,_⟩:=J.out;have q0:=(show a.eval (.tmp 41)=VE from L);clear L;rw[HV.out]at q0;refine wp_slice1_I (.tmp 41) rfl a11 q0 ?_;have s:Bw m (m.alloc (.cells a11.cells 32)):=(Below.refl _ m).alloc (bfx _) _;exact u _ _ ⟨m.heap.size,rfl,ItemsAt.one (bg5 m _)⟩ (Tb z s) s
   ·obtain ⟨_,_,p2,_⟩:=J.out;have iy:=Ep a 39 (.agg #[.int .i64 1,.int .i64 10,.int .i64 0,.int .i64 0,.int .i64 2,.int .i64 0]) J.out.1;have uj:=Ep a 40 (.agg #[.int .i64 (-1),.slice none 0 0]) J.out.2.1;obtain⟨gg,F,hI⟩:=(show ∃g,a.eval (.tmp 42)=Value.slice (some ⟨g,0,none⟩) 1 1/\ItemsAt m (some ⟨g,0,none⟩) [a11]from p2);have I8:=ev_of F;have HS:=Lh (OO.out m gg hI);clear F hI;go_step;refine HS.out.mono ?_;rintro e Y ⟨sv,ov,rfl,E,hO,s⟩;exact u _ _ ⟨sv,ov,rfl,E,hO⟩ (Tb z s) s
   ·obtain ⟨L,_⟩:=J.out;obtain⟨sv,ov,F,E,hO⟩:=(show FC (kK.mk s11 [] 1 0) m (a.eval (.tmp 43))from L);have Ak:=ev_of F;clear F;go_step;exact u _ _ ⟨sv,ov,rfl,E,hO⟩ z Br
   ·obtain ⟨L,_⟩:=J.out;obtain⟨sv,ov,F,E,hO⟩:=(show FC (kK.mk s11 [] 1 0) m (a.eval (.tmp 38))from L);have ZX:=ev_of F;clear F;go_step;exact u _ _ E z Br
   ·obtain ⟨L,_⟩:=J.out;obtain⟨sv,ov,F,E,hO⟩:=(show FC (kK.mk s11 [] 1 0) m (a.eval (.tmp 38))from L);have ZX:=ev_of F;clear F;go_step;exact u _ _ hO z Br
   obtain ⟨L,_⟩:=J.out;obtain⟨sv,ov,F,E,hO⟩:=(show FC (kK.mk s11 [] 1 0) m (a.eval (.tmp 38))from L);have ZX:=ev_of F;clear F;rotate_left;obtain ⟨L,_⟩:=J.out;obtain⟨sv,ov,F,E,hO⟩:=(show FC (kK.mk s11 [] 1 0) m (a.eval (.tmp 38))from L);have ZX:=ev_of F;clear F;rotate_left
   ·go_step;exact u _ _ ⟨_,rfl,z.size,by rw[if_pos (by decide)];exact bg5 m _⟩ (z.trans (((Below.refl _ m).alloc (bfx _) _).mono z.size)) (jq _ (List.forall_mem_cons.2 ⟨.inr λd _ h=>(by obtain⟨gg,O,h2⟩:=h;exact⟨gg,O,h2.below ((Below.refl _ m).alloc (bfx _) _)⟩),PO ((Below.refl _ m).alloc (bfx _) _)⟩))
   ·obtain ⟨L,p1,_⟩:=J.out;obtain⟨b,F,ao,r⟩:=(show WR Z.heap.size (kK.mk s11 [] 1 0) 1 m (a.eval (.tmp 10))from L);obtain⟨pv,l,ap,EQ,Um,Uo⟩:=(show gG m (a.eval (.tmp 44)) s11 from p1);rw[if_pos (by decide)]at r
    refine wp_store_row _ (.tmp 10) (.tmp 44) rfl b #[.int .i64 s11.mark,pv] F ap _ _ r bP rfl (dF EQ.one) ?_;have I:m.grownBy (m.setRow b #[.int .i64 s11.mark,pv]) (some b):=bD _ _ _;exact u _ _ rfl (z.trans ⟨I.os,I.tape,I.output,I.size,λk hk=>I.block k (by have:=z.size;omega) (by simp;omega)⟩) (jq _ (List.forall_mem_cons.2 ⟨.inr λd _ h=>(by obtain⟨gg,O,h2⟩:=h;exact⟨gg,O,Jw h2 r I⟩),Sl rfl F r ao I (r.reset _ _) (gG.store ⟨pv,l,rfl,EQ,Um,Uo⟩ r I)⟩))
   ·obtain ⟨L,_⟩:=J.out;obtain hO:=(show fM m (a.eval (.tmp 45)) []from L);obtain⟨vo,aC⟩:∃v,a.eval (.tmp 45)=v:=⟨_,rfl⟩;rw[aC]at hO;have UT:=ev_of aC;go_step;exact u _ _ hO z Br
   have Am:=Ep a 46 (.int .i64 1) J.out.1;rotate_left;have uk:=Ep a 47 (.int .i64 0) J.out.1;rotate_left
   all_goals(go_step;exact u _ _ rfl z Br)
  intro vs M z ad hV
  match vs,ad,hV with
  | [v0,v1,v2,v3,v4,v5,v6,v7,v8,v9,v10,v11,v12,v13,v14],_,hV=>
   obtain⟨tb,ar,au,r⟩:=(show WR Z.heap.size (kK.mk s11 [] 1 0) 2 M v10 from hV 10 10 v10 rfl rfl);rw[if_neg (by decide)]at r
   obtain⟨m1,YH,r,E⟩:=r;subst ar;clear hV;have Yu:=Lh (bfy r (bfy E z));clear r E z au;simp only[putsL,bf7,bf1];simp only[Act.put,bfw,bfu,bfv];go_wp2_with fail;go_meet;exact⟨_,m1,YH,rfl,Yu.out.1,Yu.out.2.1,Yu.out.2.2⟩
 case rest=>
  obtain⟨sb,m1,YH,rfl,E,D,aD⟩:=hcut;have HX:=Lh (bfy E (bfy D aD));have iP:dJ q11 s11.panes 256:=by
   have h:=(BQ (q:=q11) (its:=[a11]) (zH q11) (λx hx=>by simp at hx;subst hx;decide)).2.2
   rw[NV]at h;exact h
  have OE:=Lh iP;obtain⟨SB,IV⟩:=Nm (yH s11);have aZ:Hid (Bw wc wc.drew):=Lh ((Below.refl _ wc).drew);have iF:Hid (∀m,Bw wc m->D6 m qb 1 10 0 0 2 0):=Lh (λm h=>(Z9.out m (HX.out.2.2.trans (h.mono HX.out.2.2.size))).1);have OQ:Hid (∀m,Bw wc m->D2 m sb m1 YH):=Lh (λm h=>(HX.out.1.below h).d2);have oM:Hid (∀m,Bw wc m->Calls prog 38 #[.agg #[.int .i64 1,.int .i64 10,.int .i64 0,.int .i64 0,.int .i64 2,.int .i64 0],.agg #[.int .i64 m1,YH]] m (BytesEnd m SB)):=by
   refine Lh (λm s=>?_);obtain⟨p1,l1,e1,a1,b1,d1⟩:=HX.out.2.1.below s;have f1:m1=s11.mark/\YH=p1:=by simpa using e1
   obtain⟨rfl,rfl⟩:=f1;have es:(⟨s11.mark,l1.map bn.p⟩:df)=s11:=by rw[<-d1]
   have h:=Hy m q11 s11.mark YH l1 rfl a1 b1 (F5 OE.out d1) (by rw[es];exact LK)
   rw[es,<-IV]at h;exact h
  have Eb:Hid (∀m a c,(a=none->c=0)->SrcP m a SB.length SB->Calls prog 37 #[.agg #[.int .i64 1,.int .i64 10,.int .i64 0,.int .i64 0,.int .i64 2,.int .i64 0],.slice a SB.length c] m (λe M=>∃sv,e=.returned (.tuple #[sv,.int .i64 0])/\gG M sv s11/\Bw m M)):=by
   refine Lh (λm a c ag E=>?_);have h:=KZ m q11 a c SB rfl Qm E ag (by rw[IV];decide+kernel)
   have e:(TapeL.mk SB 0).rZ q11=(s11,0):=by rw[IV];exact Tn
   rw[e]at h;exact h
  have ZZ:Hid (Bw w6 Z/\Bw w Z/\w7.heap.size<=Z.heap.size/\Bw w7 Z):=by
   have h8:=H8.out.2.2.1;have hs:=H8.out.2.2.2;have k9:Below w7.heap.size U Z:=H9.out.2.below (λk hk=>by have:=hs.2.2;omega) hs.2.2 (by have:=h8.size;omega)
   have O9:=h8.trans k9;have aE:=H7.out.2.trans (O9.mono H7.out.2.size);exact Lh ⟨aE,H6.out.2.2.trans (aE.mono H6.out.2.2.size),O9.size,O9⟩
  have aF:Hid (Z.heap[xb]? =some (.cells #[.bool false,.int .i64 0,.string ⟨#[]⟩,.int .i64 0,.int .i64 0,.string ⟨#[97]⟩,.int .i64 0,.int .i64 10,.int .i64 1,.slice ta 1 tc] 37 (0,0))):=Lh (H9.out.2.row H8.out.1 (by decide) (by have:=H8.out.2.2.2.2.1;omega))
  obtain⟨gb,go,oc,x1,x2,rfl,aG,aH,aI,aJ,aK,aL⟩:=fM.two (H6.out.1.below ZZ.out.1);have Z5:=Lh (bfy aG (bfy aH (bfy aI (bfy aJ (bfy aK aL)))));clear E D aD iP aG aH aI aJ aK aL IV;go_upto_region 8 with fail;refine wp_region_skipA (λi=>([]:List Nat).contains i) (by kernel_rfl) (NoF [none,none,none,some 0,some 1,none]) [8,9] (PP (([.agg #[.int .i64 1,.int .i64 10,.int .i64 0,.int .i64 0,.int .i64 2,.int .i64 0],.agg #[.int .i64 1,.int .i64 10,.int .i64 0,.int .i64 0,.int .i64 2,.int .i64 0],.agg #[.int .i64 m1,YH],undef,undef,undef,undef,.int .i64 0,undef,undef,.int .i64 0]:List Value)) (Wj wc.heap.size SB s11)) (λ_ m=>Bw wc m) (λw m=>Bw w m) (vK _ _ Wl) (by kernel_rfl) (by kernel_rfl) (by kernel_rfl) aZ.out (λ_=>⟨rfl,rfl,rfl,rfl,rfl,rfl,rfl,rfl,rfl,rfl,rfl,trivial⟩) (λ_ h=>by simp at h) ?_ ?_
  ·refine ⟨?_,?_,?_,?_,?_,?_,?_,?_,?_,?_,?_,trivial⟩<;>(first|(intro _ _ a m z XR J K u;guard_hyp m:World)|intro _ a m z XR J K u)<;>replace XR:=Lh XR<;>replace J:=Lh J
   have q1:=FaA XR 1 qb 0;obtain⟨d0,d1,d2,d3,d4,d5⟩:=iF.out m z;rotate_left;have q1:=FaA XR 1 qb 0;obtain⟨d0,d1,d2,d3,d4,d5⟩:=iF.out m z;rotate_left;have bh:=FaA XR 10 sb 0;obtain⟨d0,d1⟩:=OQ.out m z;rotate_left
   ·have bi:=Ep a 50 (.agg #[.int .i64 1,.int .i64 10,.int .i64 0,.int .i64 0,.int .i64 2,.int .i64 0]) J.out.1;have UV:=Ep a 51 (.agg #[.int .i64 m1,YH]) J.out.2.1;have HS:=Lh (oM.out m z);go_step;refine HS.out.mono ?_;rintro e Y ⟨ba,bc,rfl,O,h2,h3,h4,s⟩;exact u _ _ ⟨ba,bc,rfl,h3,h4.srcP⟩ (Tb z s) s
   ·obtain ⟨_,p1,_⟩:=J.out;have UU:=Ep a 49 (.agg #[.int .i64 1,.int .i64 10,.int .i64 0,.int .i64 0,.int .i64 2,.int .i64 0]) J.out.1;obtain⟨ba,bc,F,ag,E⟩:=(show RdB SB m (a.eval (.tmp 52))from p1);have I9:=ev_of F;have HS:=Lh (Eb.out m ba bc ag E);clear F ag E;go_step;refine HS.out.mono ?_;rintro e Y ⟨sv,rfl,E,s⟩;exact u _ _ ⟨sv,rfl,E⟩ (Tb z s) s
   ·obtain ⟨L,_⟩:=J.out;obtain⟨sv,F,E⟩:=(show GX s11 m (a.eval (.tmp 53))from L);have bj:=ev_of F;clear F;go_step;exact u _ _ ⟨sv,rfl,E⟩ z Br
   ·obtain ⟨L,_⟩:=J.out;obtain⟨sv,F,E⟩:=(show GX s11 m (a.eval (.tmp 48))from L);have iW:=ev_of F;clear F;go_step;exact u _ _ E z Br
   obtain ⟨L,_⟩:=J.out;obtain⟨sv,F,E⟩:=(show GX s11 m (a.eval (.tmp 48))from L);have iW:=ev_of F;clear F;rotate_left
   ·go_step;exact u _ _ ⟨_,rfl,z.size,by rw[if_pos (by decide)];exact bg5 m _⟩ (z.trans (((Below.refl _ m).alloc (bfx _) _).mono z.size)) (jq _ (PN ((Below.refl _ m).alloc (bfx _) _)))
   ·obtain ⟨L,p1,_⟩:=J.out;obtain⟨b,F,ao,r⟩:=(show WR wc.heap.size (kK.mk s11 [] 1 0) 1 m (a.eval (.tmp 14))from L);obtain⟨pv,l,ap,EQ,Um,Uo⟩:=(show gG m (a.eval (.tmp 54)) s11 from p1);rw[if_pos (by decide)]at r
    refine wp_store_row _ (.tmp 14) (.tmp 54) rfl b #[.int .i64 s11.mark,pv] F ap _ _ r bP rfl (dF EQ.one) ?_;have I:m.grownBy (m.setRow b #[.int .i64 s11.mark,pv]) (some b):=bD _ _ _;exact u _ _ rfl (z.trans ⟨I.os,I.tape,I.output,I.size,λk hk=>I.block k (by have:=z.size;omega) (by simp;omega)⟩) (jq _ (Sj rfl F r ao I (r.reset _ _) (gG.store ⟨pv,l,rfl,EQ,Um,Uo⟩ r I)))
   have bk:=Ep a 55 (.int .i64 0) J.out.1;rotate_left
   all_goals(go_step;exact u _ _ rfl z Br)
  intro vs M z ad hV
  match vs,ad,hV with
  | [v0,v1,v2,v3,v4,v5,v6,v7,v8,v9,v10],_,hV=>
   obtain⟨tb,ar,au,r⟩:=(show WR wc.heap.size (kK.mk s11 [] 1 0) 2 M v8 from hV 8 14 v8 rfl rfl);rw[if_neg (by decide)]at r
   obtain⟨m2,iw,r,E⟩:=r;subst ar;have UJ:=(show v10=.int .i64 0 from hV 10 15 v10 rfl rfl);subst UJ;clear hV;have YR:=Lh (bfy r (bfy E z));clear r E z au;simp only[putsL,bf7,bf1];simp only[Act.put,bfw,bfu,bfv];obtain⟨R,rfl⟩:=Nm M;obtain⟨pa,pc,rfl⟩:=YR.out.2.1.row;have ZO:Hid (Bw Z R/\Bw w R):=by
    have h:=HX.out.2.2.trans (YR.out.2.2.mono HX.out.2.2.size);exact Lh ⟨h,ZZ.out.2.1.trans (h.mono ZZ.out.2.1.size)⟩
   obtain⟨C1,av⟩:=Nm (x1.cells);obtain⟨C2,aw⟩:=Nm (x2.cells);obtain⟨CX,Ue⟩:=Nm (#[.bool false,.int .i64 0,.string ⟨#[]⟩,.int .i64 0,.int .i64 0,.string ⟨#[97]⟩,.int .i64 0,.int .i64 10,.int .i64 1,.slice ta 1 tc]:Array Value);obtain⟨OB,Uj⟩:=Nm (yE.bytes);have A7:=Lh Uj;have Zf:Hid (∀m,Bw R m->dZ m (some ⟨gb,go,none⟩) [x1,x2]/\dL m x1/\dL m x2):=by
    refine Lh (λm h=>?_);have hb:=ZO.out.1.trans (h.mono ZO.out.1.size);exact⟨Z5.out.2.2.2.1.below hb,Z5.out.2.2.2.2.1.below hb,Z5.out.2.2.2.2.2.below hb⟩
   have Zv:Hid (∀m,Bw R m->(loadVar 37 ⟨gb,go,none⟩).run prog m=.ok (.agg C1) m):=by
    rw[av];exact Lh (λm h=>JE (t:=0) (Zf.out m h).1 rfl)
   have a0:Hid (∀m,Bw R m->(loadVar 37 ⟨gb,go+10,none⟩).run prog m=.ok (.agg C2) m):=by
    rw[aw];exact Lh (λm h=>JE (t:=1) (Zf.out m h).1 rfl)
   have a2:Hid (∀m,Bw R m->(loadVar 37 ⟨xb,0,none⟩).run prog m=.ok (.agg CX) m):=by
    rw[Ue];refine Lh (λm h=>?_);have hb:=ZO.out.1.trans (h.mono ZO.out.1.size);exact run_loadVar_row m xb _ _ _ _ _ ((hb.block _ (Array.getElem?_eq_some_iff.1 aF.out).1).trans aF.out) underlying37 rfl fE
   have aM:Hid (∀m,Bw R m->lC m):=Lh (λm h=>H0.out.1.below (ZO.out.2.trans (h.mono ZO.out.2.size)));have a3:Hid (∀m,Bw R m->Calls prog 24 #[.agg C1] m (Below0 m (.string ⟨#[97,32,48,46,46,49,48,32,35,49,32,53]⟩))):=by
    rw[av];refine Lh (λm h=>?_);have e:=Z5.out.2.1;have k:=yf m x1 (Zf.out m h).2.1 (by unfold PI;rw[e];decide) (by unfold zN;rw[e];decide) (aM.out m h)
    rw[e,Jl.1]at k;exact k
   have a4:Hid (∀m,Bw R m->Calls prog 24 #[.agg C2] m (Below0 m (.string ⟨#[108,97,116,101,32,101,118,101,110,116,32,97,32,51,32,53]⟩))):=by
    rw[aw];refine Lh (λm h=>?_);have e:=Z5.out.2.2.1;have k:=yf m x2 (Zf.out m h).2.2 (by unfold PI;rw[e];decide) (by unfold zN;rw[e];decide) (aM.out m h)
    rw[e,Jl.2]at k;exact k
   have a5:Hid (∀m,Bw R m->Calls prog 23 #[.agg CX] m (Below0 m (.bool true))):=by
    rw[Ue];refine Lh (λm h=>?_);have hb:=ZZ.out.2.2.2.trans ((ZO.out.1.trans (h.mono ZO.out.1.size)).mono ZZ.out.2.2.1);have k:=mZ m ⟨yE,.slice ta 1 tc,ht⟩ (H7.out.1.below hb) ⟨show yE.item.key.length<=1000000 by decide,show yE.w.key.length<=1000000 by decide,show yE.v.length<=1000000 by decide⟩
    rw[Tj]at k;exact k
   have a6:Hid (∀m,Bw R m->Calls prog 26 #[.pointer (some ⟨pb,0,none⟩)] m (BytesEnd m OB)):=by
    refine Lh (λm h=>?_);have hb:=ZO.out.1.trans (h.mono ZO.out.1.size);rw[Uj];exact pbytes_any m _ pb yE.bytes (H9.out.1.below hb) (by decide+kernel)
   have Ed:Hid (∀m g (x:bH),Bw R m->dZ m (some ⟨g,0,none⟩) [x]->dL m x->x.o=yE->Calls prog 34 #[.slice (some ⟨g,0,none⟩) 1 1,.slice (some ⟨gb,go,none⟩) 1 oc] m (Below0 m (.bool true))):=by
    refine Lh (λm g x h hx z e=>?_);obtain⟨O,h2,-⟩:=Zf.out m h;have e1:=Z5.out.2.1;have a7:dZ m (some ⟨gb,go,none⟩) [x1]:=by
     rcases O with O | ⟨b',o',e',O⟩
     ·cases O
     refine .inr ⟨b',o',e',λi y Q=>O i y ?_⟩
     match i,Q with
     | 0,Q=>exact Q
     | i+1,Q=>simp at Q
    have k:=vC m (some ⟨g,0,none⟩) (some ⟨gb,go,none⟩) 1 oc [x] [x1] hx a7 (λy Q=>by simp at Q;subst Q;exact⟨z,by rw[e];decide⟩) (λy Q=>by simp at Q;subst Q;exact⟨h2,by rw[e1];decide⟩) (show 1<=1000000 by decide) (show 1<=1000000 by decide)
    rw[show decide ([x].map bH.o=[x1].map bH.o)=true by simp[e,e1]]at k
    exact k
   have Az:Hid (∀m,Bw R m->Calls prog 12 #[.slice (some ⟨gb,go,none⟩) 2 oc] m (λe ac=>∃a c,e=.returned (.slice a 1 c)/\Bw m ac)):=by
    refine Lh (λm h=>?_);obtain⟨O,h2,h3⟩:=Zf.out m h;have e1:=Z5.out.2.1;have e2:=Z5.out.2.2.1;refine(He m (some ⟨gb,go,none⟩) oc [x1,x2] O (λy Q=>by simp at Q;rcases Q with rfl | rfl;exact h2;exact h3) (λy Q=>by simp at Q;rcases Q with rfl | rfl;rw[e1];decide;rw[e2];decide) (show 2<=900000 by decide)).mono ?_
    rintro e M ⟨v,ol,rfl,hO,z,hm,s⟩;obtain⟨a,c,F,-,-⟩:=hO.form;refine⟨a,c,?_,s⟩;have hl:ol.length=1:=by
     have h:=congrArg List.length hm;rw[bfz]at h;rw[h];have hf:([x1,x2].filter (λx=> !x.o.late))=[x1]:=by simp[e1,e2,yE,p11]
     unfold lW;rw[hf];rfl
    rw[F,hl]
   have Yv:Hid (∀m,Bw R m->Calls prog 15 #[.slice (some ⟨gb,go,none⟩) 2 oc] m (λe ac=>∃a c,e=.returned (.slice a 1 c)/\Bw m ac)):=by
    refine Lh (λm h=>?_);obtain⟨O,h2,h3⟩:=Zf.out m h;refine(P7 m (some ⟨gb,go,none⟩) oc [x1,x2] O (λy Q=>by simp at Q;rcases Q with rfl | rfl;exact h2;exact h3) (show 2<=900000 by decide)).mono ?_
    rintro e M ⟨v,rfl,hO,s⟩;rw[show[x1,x2].map bH.o=[yE,p11] by simp[Z5.out.2.1,Z5.out.2.2.1]]at hO
    obtain⟨a,c,rfl,-⟩:=hO.form;rw[Ti];exact⟨a,c,rfl,s⟩
   have a8:Hid (∀m,Bw R m->Calls prog 39 #[.agg #[.int .i64 m1,YH],.agg #[.int .i64 m2,.slice pa s11.panes.length pc]] m (Below0 m (.bool true))):=by
    refine Lh (λm h=>?_);have k:=VI ((HX.out.2.1.below YR.out.2.2).below h) (YR.out.2.1.below h) OE.out OE.out;rw[show decide (s11=s11)=true by simp]at k
    exact k
   have a9:Hid (∀m,Bw R m->(loadVar 72 ⟨sb,0,none⟩).run prog m=.ok (.agg #[.int .i64 m1,YH]) m):=Lh (λm h=>BC ((HX.out.1.below YR.out.2.2).below h));have Oy:Hid (∀m,Bw R m->(loadVar 72 ⟨tb,0,none⟩).run prog m=.ok (.agg #[.int .i64 m2,.slice pa s11.panes.length pc]) m):=Lh (λm h=>BC (YR.out.1.below h));have bb:Hid (∀m,Bw R m->m.cell? ⟨tb,1,none⟩=some (.slice pa 1 pc)):=Lh (λm h=>(YR.out.1.below h).d2.2);have bl:∀w,(Instr.slice 27 (.slice (some ⟨gb,go,none⟩) 2 oc) none (some (.int .i64 1)) none).run prog w=.ok (.slice (some ⟨gb,go,none⟩) 1 oc) w:=λw=>Pm (some ⟨gb,go,none⟩) 2 oc 1 (by have:=Z5.out.1;omega) w
   have aN:Bw R R.drew:=(Below.refl _ R).drew;clear av aw Ue Uj;go_upto_region 9 with fail;refine wp_region_held_drew (S:=λm=>Bw R m) (by kernel_rfl) aN (λj=>?_)
   clear aN;refine tkF 0 j ?_
   simp only[Act.put,bfw,bfv,bfu];refine tkF 1 j ?_
   simp only[Act.put,bfw,bfv,bfu];refine tkF 2 j ?_
   simp only[Act.put,bfw,bfv,bfu];refine tkF 3 j ?_
   simp only[Act.put,bfw,bfv,bfu];refine tkF 4 j ?_
   simp only[Act.put,bfw,bfv,bfu];refine tkF 5 j ?_
   simp only[Act.put,bfw,bfv,bfu];refine tkF 6 j ?_
   simp only[Act.put,bfw,bfv,bfu];refine tkF 7 j ?_
   simp only[Act.put,bfw,bfv,bfu];refine tkF 8 j ?_
   simp only[Act.put,bfw,bfv,bfu];refine tkF 9 j ?_
   simp only[Act.put,bfw,bfv,bfu];refine tkF 10 j ?_
   simp only[Act.put,bfw,bfv,bfu];refine tkF 11 j ?_
   simp only[Act.put,bfw,bfv,bfu];refine tkF 12 j ?_
   simp only[Act.put,bfw,bfv,bfu];refine tkF 13 j ?_
   simp only[Act.put,bfw,bfv,bfu];refine tkF 14 j ?_
   simp only[Act.put,bfw,bfv,bfu];refine tkFree (i:=15) (v:=.pointer (some ⟨gb,go,none⟩)) rfl (by kernel_rfl) (by kernel_rfl) (by kernel_rfl) (λ_ _ _ h=>h) (.inl ⟨by rfl,λw ax=>by go_simp⟩) j ?_
   simp only[Act.put,bfw,bfv,bfu];refine tkFree (i:=16) (v:=.agg C1) rfl (by kernel_rfl) (by kernel_rfl) (by kernel_rfl) (λ_ _ _ h=>h) (yieldsIf_load_at (by rfl) 37 _ rfl ⟨gb,go,none⟩ rfl (λw E=>Zv.out w E)) j ?_
   simp only[Act.put,bfw,bfv,bfu];refine tkWant 17 rfl (by kernel_rfl) rfl (λK u=>?_)
   go_simp;refine(a3.out _ j).mono ?_;rintro e Y ⟨rfl,s⟩;have D:=Tb j s;refine u _ _ D ?_;clear u s j;have j:=D;clear D
   try simp only[Act.put,bfw,bfv,bfu]
   refine tkF 18 j ?_
   simp only[Act.put,bfw,bfv,bfu];refine tkF 19 j ?_
   simp only[Act.put,bfw,bfv,bfu];refine tkF 20 j ?_
   simp only[Act.put,bfw,bfv,bfu];refine tkF 21 j ?_
   simp only[Act.put,bfw,bfv,bfu];refine tkFree (i:=22) (v:=.pointer (some ⟨gb,go+10,none⟩)) rfl (by kernel_rfl) (by kernel_rfl) (by kernel_rfl) (λ_ _ _ h=>h) (.inl ⟨by rfl,λw ax=>by go_simp⟩) j ?_
   simp only[Act.put,bfw,bfv,bfu];refine tkFree (i:=23) (v:=.agg C2) rfl (by kernel_rfl) (by kernel_rfl) (by kernel_rfl) (λ_ _ _ h=>h) (yieldsIf_load_at (by rfl) 37 _ rfl ⟨gb,go+10,none⟩ rfl (λw E=>a0.out w E)) j ?_
   simp only[Act.put,bfw,bfv,bfu];refine tkWant 24 rfl (by kernel_rfl) rfl (λK u=>?_)
   go_simp;refine(a4.out _ j).mono ?_;rintro e Y ⟨rfl,s⟩;have D:=Tb j s;refine u _ _ D ?_;clear u s j;have j:=D;clear D
   try simp only[Act.put,bfw,bfv,bfu]
   refine tkF 25 j ?_
   simp only[Act.put,bfw,bfv,bfu];refine tkF 26 j ?_
   simp only[Act.put,bfw,bfv,bfu];refine tkF 27 j ?_
   simp only[Act.put,bfw,bfv,bfu];refine tkFree (i:=28) (v:=.agg CX) rfl (by kernel_rfl) (by kernel_rfl) (by kernel_rfl) (λ_ _ _ h=>h) (yieldsIf_load_at (by rfl) 37 _ rfl ⟨xb,0,none⟩ rfl (λw E=>a2.out w E)) j ?_
   simp only[Act.put,bfw,bfv,bfu];refine tkWant 29 rfl (by kernel_rfl) rfl (λK u=>?_)
   go_simp;refine(a5.out _ j).mono ?_;rintro e Y ⟨rfl,s⟩;have D:=Tb j s;refine u _ _ D ?_;clear u s j;have j:=D;clear D
   try simp only[Act.put,bfw,bfv,bfu]
   refine tkF 30 j ?_
   simp only[Act.put,bfw,bfv,bfu];refine tkF 31 j ?_
   simp only[Act.put,bfw,bfv,bfu];refine tkF 32 j ?_
   simp only[Act.put,bfw,bfv,bfu];refine tkF 37 j ?_
   simp only[Act.put,bfw,bfv,bfu];refine tkF 38 j ?_
   simp only[Act.put,bfw,bfv,bfu];refine tkWant 33 rfl (by kernel_rfl) rfl (λK u=>?_)
   go_simp;refine(a6.out _ j).mono ?_;rintro e bm ⟨ba,bc,rfl,O,h2,h3,h4,s⟩;have aP:=Lh (bfy h3 h4.srcP);have D:=Tb j s;refine u _ _ D ?_;clear u s j O h2 h3 h4;have j:=D;clear D
   try simp only[Act.put,bfw,bfv,bfu]
   refine tkWant 34 rfl (by kernel_rfl) rfl (λK u=>?_)
   go_simp;refine(rread_any _ ba bc _ OB rfl aP.out.2 aP.out.1 (by rw[A7.out];decide+kernel)).mono ?_
   rintro e aQ ⟨bd,rfl,hR,aR,s⟩;have aS:=Lh (bfy hR (bgn j.size aR));have D:=Tb j s;refine u _ _ D ?_;clear u s j hR aR;have j:=D;clear D
   try simp only[Act.put,bfw,bfv,bfu]
   refine tkWant 35 rfl (by kernel_rfl) rfl (λK u=>?_)
   go_simp;refine(SE aQ aQ.heap.size bd ⟨OB,0⟩ aS.out.1 (bfx _)).mono ?_;rintro e iY ⟨x,hx,rfl,z,-,I⟩;have D:=below_own j aS.out.2 j.size I;have aT:Hid (dL iY x/\x.o=yE):=by
    rw[A7.out,Vt]at hx;exact Lh ⟨z,hx⟩
   refine u _ _ D ?_;clear u j hx z I;have j:=D;clear D
   try simp only[Act.put,bfw,bfv,bfu]
   refine tkWant 36 rfl (by kernel_rfl) rfl (λK u=>?_)
   refine zo (.tmp 91) rfl x rfl ?_;have s:=(Below.refl _ iY).alloc (bfx _) (.cells x.cells 37);have D:=Tb j s;have uG:Hid (dZ (iY.alloc (.cells x.cells 37)) (some ⟨iY.heap.size,0,none⟩) [x]/\dL (iY.alloc (.cells x.cells 37)) x):=Lh ⟨dZ.ofRow (bg5 iY _),aT.out.1.below s⟩;refine u _ _ D ?_;clear u s j;have j:=D;clear D;obtain⟨be,Il⟩:=Nm (iY.alloc (.cells x.cells 37));rw[<-Il]at j uG ⊢;clear Il
   try simp only[Act.put,bfw,bfv,bfu]
   refine tkWant 39 rfl (by kernel_rfl) rfl (λK u=>?_)
   go_simp;refine(Ed.out be iY.heap.size x j uG.out.1 uG.out.2 aT.out.2).mono ?_;rintro e bo ⟨rfl,s⟩;have D:=Tb j s;refine u _ _ D ?_;clear u s j;have j:=D;clear D
   try simp only[Act.put,bfw,bfv,bfu]
   refine tkF 40 j ?_
   simp only[Act.put,bfw,bfv,bfu];refine tkF 41 j ?_
   simp only[Act.put,bfw,bfv,bfu];refine tkF 42 j ?_
   simp only[Act.put,bfw,bfv,bfu];refine tkWant 43 rfl (by kernel_rfl) rfl (λK u=>?_)
   go_simp;refine(Az.out _ j).mono ?_;rintro e Y ⟨fa,fc,rfl,s⟩;have D:=Tb j s;refine u _ _ D ?_;clear u s j;have j:=D;clear D
   try simp only[Act.put,bfw,bfv,bfu]
   refine tkF 44 j ?_
   simp only[Act.put,bfw,bfv,bfu];refine tkF 45 j ?_
   simp only[Act.put,bfw,bfv,bfu];refine tkF 46 j ?_
   simp only[Act.put,bfw,bfv,bfu];refine tkF 47 j ?_
   simp only[Act.put,bfw,bfv,bfu];refine tkF 48 j ?_
   simp only[Act.put,bfw,bfv,bfu];refine tkWant 49 rfl (by kernel_rfl) rfl (λK u=>?_)
   go_simp;refine(Yv.out _ j).mono ?_;rintro e Y ⟨la,lc,rfl,s⟩;have D:=Tb j s;refine u _ _ D ?_;clear u s j;have j:=D;clear D
   try simp only[Act.put,bfw,bfv,bfu]
   refine tkF 50 j ?_
   simp only[Act.put,bfw,bfv,bfu];refine tkF 51 j ?_
   simp only[Act.put,bfw,bfv,bfu];refine tkF 52 j ?_
   simp only[Act.put,bfw,bfv,bfu];refine tkF 53 j ?_
   simp only[Act.put,bfw,bfv,bfu];refine tkF 54 j ?_
   simp only[Act.put,bfw,bfv,bfu];refine tkF 55 j ?_
   simp only[Act.put,bfw,bfv,bfu];refine tkF 56 j ?_
   simp only[Act.put,bfw,bfv,bfu];refine tkF 57 j ?_
   simp only[Act.put,bfw,bfv,bfu];refine tkFree (i:=58) (v:=.agg #[.int .i64 m1,YH]) rfl (by kernel_rfl) (by kernel_rfl) (by kernel_rfl) (λ_ _ _ h=>h) (yieldsIf_load_at (by rfl) 72 _ rfl ⟨sb,0,none⟩ rfl (λw E=>a9.out w E)) j ?_
   simp only[Act.put,bfw,bfv,bfu];refine tkFree (i:=59) (v:=.agg #[.int .i64 m2,.slice pa s11.panes.length pc]) rfl (by kernel_rfl) (by kernel_rfl) (by kernel_rfl) (λ_ _ _ h=>h) (yieldsIf_load_at (by rfl) 72 _ rfl ⟨tb,0,none⟩ rfl (λw E=>Oy.out w E)) j ?_
   simp only[Act.put,bfw,bfv,bfu];refine tkWant 60 rfl (by kernel_rfl) rfl (λK u=>?_)
   go_simp;refine(a8.out _ j).mono ?_;rintro e Y ⟨rfl,s⟩;have D:=Tb j s;refine u _ _ D ?_;clear u s j;have j:=D;clear D
   try simp only[Act.put,bfw,bfv,bfu]
   refine tkF 61 j ?_
   simp only[Act.put,bfw,bfv,bfu];refine tkF 62 j ?_
   simp only[Act.put,bfw,bfv,bfu];refine tkF 63 j ?_
   simp only[Act.put,bfw,bfv,bfu];refine tkFree (i:=64) rfl (by kernel_rfl) (by kernel_rfl) (by kernel_rfl) (λ_ _ _ h=>h) (.inl ⟨by rfl,λw ax=>by(have g1:=bb.out w ax);go_simp;rfl⟩) j ?_
   simp only[Act.put,bfw,bfv,bfu];refine tkF 65 j ?_
   simp only[Act.put,bfw,bfv,bfu];refine tkF 66 j ?_
   simp only[Act.put,bfw,bfv,bfu];refine tkF 67 j ?_
   simp only[Act.put,bfw,bfv,bfu];refine tkF 68 j ?_
   simp only[Act.put,bfw,bfv];refine wpAnyH_done (by kernel_rfl) ?_ _
   have HZ:=Lh (ZO.out.2.trans (j.mono ZO.out.2.size));clear j;go_wp2_with fail;go_ret;exact⟨rfl,HZ.out⟩
end Go.Proofs.YtgfmbkoieacgoaaGreatDoor
set_option maxRecDepth 100000
set_option maxHeartbeats 8000000
namespace Go.Proofs.YtgfmbkoieacgoaaGreatDoor
open Go Go.RowKit Go.Proofs.Tryz
theorem fM.take {w:World} {a:Option Addr} {n c k:Nat} {o:List dE}(h:fM w (.slice a n c) o)(p:k<=n):fM w (.slice a k c) (o.take k):=by
 obtain⟨s,u,l,m,y,j,q,r⟩:=h;simp only[Value.slice.injEq]at m;obtain⟨rfl,rfl,rfl⟩:=m;refine⟨a,c,l.take k,by rw[bga,Nat.min_eq_left p],by rw[bga];omega,?_,λx d=>q x (List.mem_of_mem_take d),by rw[r,List.map_take]⟩
 rcases j with j | ⟨b,o,e,j⟩
 ·left
  rw[j,List.take_nil]
 refine .inr ⟨b,o,e,λi x d=>j i x ?_⟩;rw[List.getElem?_take]at d
 split at d
 ·exact d
 cases d
theorem KP(w:World)(q:bu)(z:Option Addr)(u:Nat)(its:List ItemL)(Z:Int)(ak:0<=Z/\Z<=255)(hI:ItemsAt w z its)(hk:∀x∈its,x.key.length<=1048576)(hl:its.length<=1048576)(hc:its.length<=u)(h0:z=none->u=0)(hW:lC w)(hL:nT w):
  Calls prog 6 #[.agg q.cells,.slice z its.length u,.int .u8 Z] w (Below0 w (.bool true)):=by
 have mixed:prog.follows .mixedOrders=true:=by kernel_rfl
 have HF:Hid (∀d,Bw w d->Calls prog 7 #[] d (Below0 d (.bool true))):=Lh (λd h=>KO d (hW.below h) (hL.below h));obtain⟨g,hg⟩:=Nm (greatL its);have Oq:Hid (∀d,Bw w d->Calls prog 8 #[.slice z its.length u] d (Below0 d (.int .i64 ((g:Nat):Int)))):=by
  rw[hg];exact Lh (λd j=>great_any d z u its (hI.below j) hk hl)
 obtain⟨N,hN⟩:=Nm (its.length);have y:Hid (ItemsAt w z its/\N=its.length/\g=greatL its/\N<=u/\(z=none->u=0)):=Lh ⟨hI,hN,hg,by omega,h0⟩
 rw[<-hN]at Oq ⊢;have ao:N<=1048576:=by omega
 obtain⟨w1,I⟩:=Nm (w.alloc (.cells q.cells 23));obtain⟨qb,XW⟩:=Nm (w.heap.size);have H1:Hid (dB w1 qb q/\Bw w w1):=by rw[I,XW];exact Lh (Hl w q)
 clear hI hk hl hc h0 hN hg hW hL;obtain⟨Q,hQ⟩:=Nm q;rw[<-hQ]at H1;obtain⟨p,size,m,r,agg,kq⟩:=q;have Yy:Hid (∀d,dB d qb Q->D6 d qb p size m r agg kq):=by rw[hQ];exact Lh (λd h=>h.d6)
 have Zx:Hid (Q=⟨p,size,m,r,agg,kq⟩):=Lh hQ;unfold bu.cells at I ⊢;simp only at I ⊢;go_enter func6,ntmps6;go_upto_region 1 with fail;rw[<-I,<-XW];clear I XW hQ;go_wp2_with fail;refine(HF.out w1 H1.out.2).mono ?_;rintro e E ⟨rfl,j⟩;have H2:Hid (dB E qb Q/\Bw w E):=Lh ⟨H1.out.1.below j,H1.out.2.trans (j.mono H1.out.2.size)⟩;clear j;dsimp only;by_cases ap:1500<g
 ·go_wp2_with fail;refine(Oq.out E H2.out.2).mono ?_;rintro e w3 ⟨rfl,j⟩;have HZ:=Lh (H2.out.2.trans (j.mono H2.out.2.size));clear j;dsimp only;go_wp2_with fail;go_ret;exact⟨rfl,HZ.out⟩
 go_wp2_with fail;refine(Oq.out E H2.out.2).mono ?_;rintro e w3 ⟨rfl,j⟩;have H3:Hid (dB w3 qb Q/\Bw w w3):=Lh ⟨H2.out.1.below j,H2.out.2.trans (j.mono H2.out.2.size)⟩;clear j;dsimp only;have ae:¬((N:Int)+1=0):=by omega
 go_upto_region 6 with fail;obtain⟨o,hK⟩:∃o:Nat,Z % ((N:Int)+1)=(o:Int):=⟨(Z % ((N:Int)+1)).toNat,by have:=Int.emod_nonneg Z ae;omega⟩
 have ar:o<=N:=by have:=Int.emod_lt_of_pos Z (show(0:Int)<(N:Int)+1 by omega);omega
 rw[hK];obtain⟨n1,L⟩:=Nm ((dR Q jK [] 0 (its.take o)).n);obtain⟨n2,M⟩:=Nm ((dR Q jK [] 0 its).n);obtain⟨J,O⟩:=Nm ((dR Q jK [] 0 (its.take o)).outs);obtain⟨o2,R⟩:=Nm ((dR Q jK [] 0 its).outs);obtain⟨p1,p2,p3,p4,p5,p6,p7⟩:=JP (q:=Q) its o (by have:=y.out.2.1;omega)
 rw[<-L,<-M]at p1 p3;rw[<-L]at p2 p4;rw[<-M]at p5;rw[<-y.out.2.1]at p3 p5;rw[<-O,<-R]at p6 p7;have Ux:g<=1500:=by omega
 have s:∀x∈its,x.key.length<=1000000:=λx U=>by have:=greatL_mem U;have:=y.out.2.2.1;omega
 have aa:its.length<=1500:=by have:=greatL_length its;have:=y.out.2.2.1;omega
 have an:N<=1500:=by have:=y.out.2.1;omega
 have af:Hid (∀d,Bw w d->Calls prog 9 #[.agg #[.int .i64 p,.int .i64 size,.int .i64 m,.int .i64 r,.int .i64 agg,.int .i64 kq],.slice z o u] d (λe E=>∃a c,e=.returned (.tuple #[.slice a J.length c,.int .i64 n1])/\fM E (.slice a J.length c) J/\Bw d E)):=by
  refine Lh (λd j=>?_);have ab:(its.take o).length=o:=by rw[bga];have:=y.out.2.1;omega
  have h:=x9 d Q z u (its.take o) ((y.out.1.below j).take o) (λx U=>s x (List.mem_of_mem_take U)) (by omega) (by rw[ab];have:=y.out.2.2.2.1;omega) y.out.2.2.2.2
  rw[ab,Zx.out]at h;refine h.mono ?_;rintro e E ⟨ov,rfl,D,ac⟩;rw[<-Zx.out,<-L,<-O]at*;obtain⟨a,c,l,rfl,hl,-⟩:=D.open;rw[hl]at D ⊢;exact⟨a,c,rfl,D,ac⟩
 have ag:Hid (∀d,Bw w d->Calls prog 9 #[.agg #[.int .i64 p,.int .i64 size,.int .i64 m,.int .i64 r,.int .i64 agg,.int .i64 kq],.slice z N u] d (λe E=>∃a c,e=.returned (.tuple #[.slice a o2.length c,.int .i64 n2])/\fM E (.slice a o2.length c) o2/\Bw d E)):=by
  refine Lh (λd j=>?_);have h:=x9 d Q z u its (y.out.1.below j) s (by omega) (by have:=y.out.2.1;have:=y.out.2.2.2.1;omega) y.out.2.2.2.2
  rw[<-y.out.2.1,Zx.out]at h;refine h.mono ?_;rintro e E ⟨ov,rfl,D,ac⟩;rw[<-Zx.out,<-M,<-R]at*;obtain⟨a,c,l,rfl,hl,-⟩:=D.open;rw[hl]at D ⊢;exact⟨a,c,rfl,D,ac⟩
 have AA:Hid (gU J/\J.length<=1000000/\gU o2/\o2.length<=1000000):=by
  obtain⟨f1,f2⟩:=tH (its.take o) jK [] 0 (zH Q) (λx U=>s x (List.mem_of_mem_take U)) (λx U=>by simp at U)
  obtain⟨f3,f4⟩:=tH its jK [] 0 (zH Q) s (λx U=>by simp at U)
  have ab:=List.length_take_le o its;rw[<-O]at f1 f2;rw[<-R]at f3 f4;have h9:(its.take o).length<=1500:=bgn (by rw[bga];omega) aa
  simp only[List.length_nil]at f2 f4;exact Lh ⟨f1,by omega,f3,by omega⟩
 obtain⟨F,Y⟩:=Nm (J.length);obtain⟨l2,ad⟩:=Nm (o2.length);have Ed:Hid (∀d a1 c1 a2 c2,fM d (.slice a1 F c1) J->fM d (.slice a2 l2 c2) o2->Calls prog 34 #[.slice a1 F c1,.slice a2 F c2] d (Below0 d (.bool true))):=by
  refine Lh (λd a1 c1 a2 c2 q1 q2=>?_);have q3:=q2.take (k:=F) (by rw[Y,ad];exact p6)
  rw[show o2.take F=J by rw[Y];exact p7]at q3
  have h:=J5 q1 q3 AA.out.1 AA.out.1 AA.out.2.1 AA.out.2.1;rw[show decide (J=J)=true by simp]at h
  exact h
 rw[<-Y]at af;rw[<-ad]at ag;have au:F<=l2:=by omega
 have av:F<=1000000/\l2<=1000000:=by have:=AA.out;omega
 have aw:Hid (Z % ((N:Int)+1)=(o:Int)):=Lh hK;have EY:o<=u:=by have:=y.out.2.2.2.1;omega
 have ah:∀w,(Instr.slice 24 (.slice z N u) none (some (.int .i64 (o:Int))) none).run prog w=.ok (.slice z o u) w:=λw=>TC z N u o EY w;have IK:Hid (∀d,Bw w3 d->D6 d qb p size m r agg kq):=Lh (λd h=>Yy.out d (H3.out.1.below h));have ai:Bw w3 w3.drew:=(Below.refl _ w3).drew;clear L M O R Y ad p6 p7 hK s aa ae Ux ak EY;refine wp_region_held_drew (S:=λd=>Bw w3 d) (by kernel_rfl) ai (λb=>?_)
 clear ai;refine tkFree (i:=0) rfl (by kernel_rfl) (by kernel_rfl) (by kernel_rfl) (λ_ _ _ h=>h) (.inl ⟨by rfl,λw al=>by(obtain⟨d0,d1,d2,d3,d4,d5⟩:=IK.out w al);go_simp;rfl⟩) b ?_
 simp only[Act.put,bfw,bfv,bfu];refine tkF 1 b ?_
 simp only[Act.put,bfw,bfv,bfu];refine tkF 2 b ?_
 simp only[Act.put,bfw,bfv,bfu];refine tkF 3 b ?_
 simp only[Act.put,bfw,bfv,bfu];refine tkOne 4 rfl (by kernel_rfl) rfl (λK hK=>?_)
 go_simp;refine(af.out _ (H3.out.2.trans (b.mono H3.out.2.size))).mono ?_;rintro e w4 ⟨a1,c1,rfl,D,j⟩;have hH:=Tb b j;have H4:=Lh (bfy D hH);refine hK _ _ hH ?_;clear hK j b D;have b:=hH;clear hH
 try simp only[Act.put,bfw,bfv,bfu]
 refine tkF 5 b ?_
 simp only[Act.put,bfw,bfv,bfu];refine tkF 6 b ?_
 simp only[Act.put,bfw,bfv,bfu];refine tkF 7 b ?_
 simp only[Act.put,bfw,bfv,bfu];refine tkF 8 b ?_
 simp only[Act.put,bfw,bfv,bfu];refine tkF 9 b ?_
 simp only[Act.put,bfw,bfv,bfu];refine wpAnyH_done (by kernel_rfl) ?_ _
 clear b;have aj:Hid (Bw w w4):=Lh (H3.out.2.trans (H4.out.2.mono H3.out.2.size));obtain⟨d0,d1,d2,d3,d4,d5⟩:=IK.out w4 H4.out.2;clear ah;go_wp2_with fail;refine(ag.out w4 aj.out).mono ?_;rintro e w5 ⟨a2,c2,rfl,D,j⟩;have H5:=Lh (bfy (H4.out.1.below j) (bfy D (Tb aj.out j)));clear D j d0 d1 d2 d3 d4 d5;have am:F<=c2:=by
  obtain⟨a',c',l,h1,h2,-⟩:=H5.out.2.1;simp only[Value.slice.injEq]at h1;obtain⟨-,e2,e3⟩:=h1;omega
 have ah:∀w,(Instr.slice 27 (.slice a2 l2 c2) none (some (.int .i64 (F:Int))) none).run prog w=.ok (.slice a2 F c2) w:=λw=>Pm a2 l2 c2 F am w;have HS:=Lh (Ed.out w5 a1 c1 a2 c2 H5.out.1 H5.out.2.1);have e1:IntKind.i64.wrap (n2-n1)=n2-n1:=IntWalk.i64_in _ (by omega)
 have e2:IntKind.i64.wrap ((N:Int)-(o:Int))=(N:Int)-o:=IntWalk.i64_in _ (by omega)
 have e3:(F:Int)<=(l2:Int):=by omega
 dsimp only;go_wp2_with fail;refine HS.out.mono ?_;rintro e w6 ⟨rfl,j⟩;have HZ:=Lh (H5.out.2.2.trans (j.mono H5.out.2.2.size));clear j;dsimp only;go_wp2_with fail;go_ret;exact⟨by simp,HZ.out⟩
end Go.Proofs.YtgfmbkoieacgoaaGreatDoor
