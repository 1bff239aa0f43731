/-
  26.
-/
import Derived.Test.YtjeeghafachebaaGreatU24
import Derived.Test.YtjeeghafachebaaGreatU25
set_option maxRecDepth 100000
set_option maxHeartbeats 4000000
namespace Go.Proofs.YtjeeghafachebaaGreat
open Go Go.RowKit Go.Proofs.Tryz
theorem xB {l:List bg} {w:bg} {p:Nat}(hl:dD l)(hw:w.bB=true)(hp:ky (kH l w) (became l w) p):
  (kH l w).take p++[became l w]++(kH l w).drop p=mq l w:=by
 obtain⟨h0,h1,h2⟩:=hp;have hb:=(jh (l:=l) hw).1;have hself:dK (became l w) (became l w)=true:=by
  have r:=cu hb;exact(fu _ _).2 ⟨hb,hb,rfl,by omega,by omega⟩
 have hrest:∀x∈kH l w,dK x (became l w)=false:=λx hx=>vM hl hw hx;have hs:(kH l w).Pairwise (λa b=>bJ a b/\dK a b=false):=hl.2.sublist List.filter_sublist;obtain⟨y,hy⟩:=Nm (became l w);obtain⟨r,hr⟩:=Nm (kH l w);have Aa:=Gp (l:=l) hw;have hts:=vT hl hw;have hrr:∀x∈r,x.bB=true:=λx hx=>by rw[hr]at hx;exact hl.1 x (mZ.1 hx).1
 rw[<-hy,<-hr]at h1 h2 Aa;rw[<-hr]at h0 hs;rw[<-hy]at hb hself hrest;rw[<-hr]at hrest;rw[<-hy,<-hr];have hat:∀i (h:i<r.length),pX r i=r[i]:=λi h=>fF (bfs h);have ha:∀x∈r.take p,bJ x y:=by
  intro x hx;obtain⟨i,hi,e⟩:=List.getElem_of_mem hx;rw[bga]at hi;have h:=h1 i (by omega)
  rw[hat i (by omega)]at h
  rw[<-e,List.getElem_take];exact h
 have hd:∀x∈r.drop p,bJ y x:=by
  intro x hx;obtain⟨i,hi,e⟩:=List.getElem_of_mem hx;rw[bgx]at hi;have h:=h2 (p+i) (by omega) (by omega)
  rw[hat _ (by omega)]at h
  rw[List.getElem_drop]at e;rw[e]at h;refine(mJ (λe'=>?_)).resolve_right h;have:=hrest x (List.mem_of_mem_drop hx);rw[<-e',hself]at this;cases this
 have hM:dD (r.take p++[y]++r.drop p):=by
  refine⟨λx hx=>?_,?_⟩
  ·simp only[bgg,bgd]at hx;rcases hx with(hx | rfl) | hx
   ·exact hrr x (List.mem_of_mem_take hx)
   ·exact hb
   exact hrr x (List.mem_of_mem_drop hx)
  rw[List.pairwise_append,List.pairwise_append];refine⟨⟨hs.sublist (List.take_sublist _ _),by simp,λx hx z hz=>?_⟩,hs.sublist (List.drop_sublist _ _),λx hx z hz=>?_⟩
  ·rw[List.mem_singleton.1 hz];exact⟨ha x hx,hrest x (List.mem_of_mem_take hx)⟩
  rcases List.mem_append.1 hx with hx | hx
  ·have e:=List.take_append_drop p r;rw[<-e,List.pairwise_append]at hs;exact hs.2.2 x hx z hz
  rw[List.mem_singleton.1 hx];exact⟨hd z hz,by rw[mo];exact hrest z (List.mem_of_mem_drop hz)⟩
 refine hM.ext hts.1 λq c=>?_;rw[hts.2,<-Aa];refine KG (λx=>?_) q c;have:x∈r↔x∈r.take p∨x∈r.drop p:=by
  rw[<-bgg,List.take_append_drop]
 simp only[bgg,bgd,this];constructor
 ·rintro((h | h) | h)
  ·exact .inl (.inl h)
  ·exact .inr h
  exact .inl (.inr h)
 rintro((h | h) | h)
 ·exact .inl (.inl h)
 ·exact .inr h
 exact .inl (.inr h)
theorem Gx {x y o:bg}(h:dK o x=true):jK x y o=rD y o:=by
 rw[jK,if_pos h];rfl
def lV(w:World)(B b1 b2 g b3 c:Nat)(x y:bg)(out:List bg)(v9:Value)(gv:List Nat)(wr:World):Prop:=
 (w.heap.size<=b1/\b1<b2/\b2<g/\g<b3/\b3<B/\B<=wr.heap.size)/\Bw w wr/\bZ wr b1 x/\bZ wr b2 bX/\bZ wr b3 y/\cK wr (b2+1) (.slice (some ⟨g,0,none⟩) out.length c) out/\nU wr B v9 gv
theorem lV.below {w:World} {B b1 b2 g b3 c:Nat} {x y:bg} {out:List bg} {v9:Value} {gv:List Nat} {wr wz:World}(h:lV w B b1 b2 g b3 c x y out v9 gv wr)(hB:Bw wr wz):lV w B b1 b2 g b3 c x y out v9 gv wz:=by
 obtain⟨⟨a1,a2,a3,a4,a5,a6⟩,h1,h2,h3,h4,h5,h6⟩:=h;exact⟨⟨a1,a2,a3,a4,a5,bgn a6 hB.size⟩,Tb h1 hB,h2.below hB,h3.below hB,h4.below hB,h5.far hB,h6.far hB⟩
theorem lV.GY {w:World} {B b1 b2 g b3 c:Nat} {x y:bg} {out out':List bg} {v9:Value} {gv:List Nat} {wr wz:World}(h:lV w B b1 b2 g b3 c x y out v9 gv wr)(ho:cK wz (b2+1) (.slice (some ⟨g,0,none⟩) out'.length c) out')(hg:wr.grownBy wz (some g)):lV w B b1 b2 g b3 c x y out' v9 gv wz:=by
 obtain⟨⟨a1,a2,a3,a4,a5,a6⟩,h1,h2,h3,h4,h5,h6⟩:=h;have hBl:Below w.heap.size wr wz:=⟨hg.os,hg.tape,hg.output,hg.size,λk hk=>hg.block k (by omega) (by simp;omega)⟩
 exact⟨⟨a1,a2,a3,a4,a5,bgn a6 hg.size⟩,h1.trans hBl,h2.grown hg (by simp;omega),h3.grown hg (by simp;omega),h4.grown hg (by simp;omega),ho,h6.kept hg (vN h5 h6)⟩
theorem lV.Pm {w:World} {B b1 b2 g b3 c:Nat} {x y:bg} {out:List bg} {v9 v9':Value} {gv uK:List Nat} {wr wz:World}(h:lV w B b1 b2 g b3 c x y out v9 gv wr)(ho:nU wz B v9' uK)(hg:wr.grownBy wz v9.ownBlock):lV w B b1 b2 g b3 c x y out v9' uK wz:=by
 obtain⟨⟨a1,a2,a3,a4,a5,a6⟩,h1,h2,h3,h4,h5,h6⟩:=h;have hl:∀k,v9.ownBlock=some k->B<=k/\k<wr.heap.size:=λk hk=>Own.lt h6 hk;have hBl:Below B wr wz:=⟨hg.os,hg.tape,hg.output,hg.size,λk hk=>hg.block k (by omega) (lN hl hk)⟩
 exact⟨⟨a1,a2,a3,a4,a5,bgn a6 hg.size⟩,h1.trans (hBl.mono (by omega)),h2.grown hg (lN hl (by omega)),h3.grown hg (lN hl (by omega)),h4.grown hg (lN hl (by omega)),h5.kept hg (yT h5 h6),ho⟩
theorem lV.set {w:World} {B b1 b2 g b3 c:Nat} {x y y':bg} {out:List bg} {v9:Value} {gv:List Nat} {wr wz:World}(h:lV w B b1 b2 g b3 c x y out v9 gv wr)(ho:bZ wz b3 y')(hg:wr.grownBy wz (some b3)):lV w B b1 b2 g b3 c x y' out v9 gv wz:=by
 obtain⟨⟨a1,a2,a3,a4,a5,a6⟩,h1,h2,h3,h4,h5,h6⟩:=h;have n6:v9.ownBlock≠some b3:=λe=>by have:=Own.lt h6 e;omega
 have hBl:Below w.heap.size wr wz:=⟨hg.os,hg.tape,hg.output,hg.size,λk hk=>hg.block k (by omega) (by simp;omega)⟩
 exact⟨⟨a1,a2,a3,a4,a5,bgn a6 hg.size⟩,h1.trans hBl,h2.grown hg (by simp;omega),h3.grown hg (by simp;omega),ho,h5.kept hg (.inr (by simp[Value.ownBlock];omega)),h6.kept hg (.inr n6)⟩
def Nq(w:World)(B b1 b2 g b3 c:Nat)(l:List bg)(x:bg)(v7 v9 i:Value)(wr:World):Prop:=
 ∃j:Nat,j<=l.length/\i=.int .i64 (j:Int)/\v7=.slice (some ⟨g,0,none⟩) (fP l x j).length c/\lV w B b1 b2 g b3 c x (gM l x j) (fP l x j) v9 (fK l x j) wr
def PG(w:World)(B b1 b2 g b3 c:Nat)(X y:bg)(out M:List bg)(v9:Value)(gv:List Nat)(k:Nat)(w':World):Prop:=
 cond (Nat.ble k 1) (lV w B b1 b2 g b3 c X y out v9 gv w') (cond (Nat.ble k 2) (lV w B b1 b2 g b3 c X y M v9 gv w') (bZ w' b3 y/\bZ w' b2 y/\cK w' (b2+1) (.slice (some ⟨g,0,none⟩) M.length c) M/\nU w' B v9 gv/\Bw w w'))
theorem PG.row {w:World} {B b1 b2 g b3 c:Nat} {X y:bg} {out M:List bg} {v9:Value} {gv:List Nat} {k:Nat} {w':World}(h:PG w B b1 b2 g b3 c X y out M v9 gv k w'):bZ w' b3 y:=by
 unfold PG at h;cases h1:Nat.ble k 1 <;> rw[h1]at h
 ·cases h2:Nat.ble k 2 <;> rw[h2]at h
  ·exact h.1
  exact h.2.2.2.2.1
 exact h.2.2.2.2.1
theorem tY {l:List bg} {w:bg}(hl:dD l)(hw:w.bB=true):pV l w=(mq l w,became l w,lJ l w):=by rw[pV,if_pos ⟨hl,hw⟩]
theorem Hu {l:List bg} {w:bg}(h:¬(dD l/\w.bB=true)):pV l w=(l,bX,[]):=by rw[pV,if_neg h]
theorem FX(w:World) {ops:Array Oper} {rest:List Oper} {o:Oper} {a:Act} {Q:Exit->Act->World->Prop}(hg:o.guard=none)(l c:Operand)(hop:o.op=Op.makeSlice 84 l c)
  (base:Nat) (C:Int) (n:Nat) (hl:a.eval l=.int .i64 0) (hc:a.eval c=.int .i64 C) (hC:C=(n:Int)) (hn:n<=1000000) (hb:base<=w.heap.size)
  (hK:∀w',cK w' base (.slice (some ⟨w.heap.size,0,none⟩) 0 n) []->Bw w w'->wpList prog ops Q rest (a.put o.dst (.slice (some ⟨w.heap.size,0,none⟩) 0 n)) w'):wpList prog ops Q (o::rest) a w:=by
 obtain⟨i,hi,hz0,hz1,hz2⟩:=info_parts (P:=prog) (e:=47) (z:=.agg #[.string ⟨#[]⟩,.int .i64 0,.int .i64 0]) (size:=3) (bytes:=32) (by kernel_rfl)
 refine wpList_make_own w hg l c 84 hop base 47 i _ 3 underlying84 hi hz0 hz1 .i64 .i64 C n hl hc hC (by rw[hz2];omega) (by unfold maxLen;omega) hb ?_
 intro w' h1 h2;exact hK w' h1 ⟨h2.os,h2.tape,h2.output,h2.size,λk hk=>h2.block k hk (by simp)⟩
theorem cK.Po {w:World} {B b:Nat} {v:Value} {l:List bg}(h:cK w B v l)(hb:b<B):v.ownBlock=none∨v.ownBlock≠some b:=by
 cases e:v.ownBlock with
 | none=>exact .inl rfl
 | some k=>
  right
  intro he;cases he
  have:=h.lt e;omega
theorem MQ(w:World)(sa:Option Addr)(sc:Nat)(l:List bg)(x:bg)(hA:dF w sa l)(hk:∀y∈l,y.key.length<=1000000)(hx:x.key.length<=1000000)(hn:l.length<=900):
  Calls prog 95 #[.slice sa l.length sc,.agg x.cells] w (sP w (pV l x).1 (pV l x).2.1 (pV l x).2.2):=by
 obtain⟨n,hN⟩:=Nm (l.length);obtain⟨P,hP⟩:=Nm (sP w (pV l x).1 (pV l x).2.1 (pV l x).2.2);rw[<-hP,<-hN];have HN:Hid (n=l.length/\n<=900):=Lh ⟨hN,by omega⟩
 have Tx:n<=900:=by omega
 have HA:=Lh hA;have HP:=Lh hP;obtain⟨sb,hsb⟩:=Nm (decide (dD l));obtain⟨rb,hrb⟩:=Nm (x.bB);have UM:Hid (∀w',Bw w w'->Calls prog 52 #[.slice sa n sc] w' (bE w' (.bool sb))):=by
  rw[hsb,hN];exact Lh (λw' h=>xy w' sa sc l (hA.below h) hk (by omega))
 obtain⟨X,hX⟩:=Nm x;have Xi:Hid (∀w',Calls prog 48 #[.agg X.cells] w' (bE w' (.bool rb))):=by
  rw[hrb,hX];exact Lh (λw'=>nT w' x hx)
 have Oe:=Lh hsb;have EL:=Lh hrb;obtain⟨w2,hw2⟩:=Nm ((w.alloc (.cells x.cells 47)).alloc (.cells #[.string ⟨#[]⟩,.int .i64 0,.int .i64 0] 47));obtain⟨b1,hb1⟩:=Nm (w.heap.size);obtain⟨b2,hb2⟩:=Nm (w.heap.size+1);have hs1:(w.alloc (.cells x.cells 47)).heap.size=w.heap.size+1:=bq w _;have H2:Hid (bZ w2 b1 x/\bZ w2 b2 bX/\Bw w w2/\w.heap.size=b1/\b2=b1+1/\w2.heap.size=b1+2):=by
  have k1:=(Below.refl _ w).alloc (bfx _) (.cells x.cells 47);have k2:=(Below.refl _ (w.alloc (.cells x.cells 47))).alloc (bfx _) (.cells #[.string ⟨#[]⟩,.int .i64 0,.int .i64 0] 47);refine Lh ⟨?_,?_,?_,hb1.symm,by omega,by rw[hw2,bq,hs1,hb1]⟩
  ·rw[hw2,hb1];exact bZ.below (bg5 w _) k2
  ·rw[hw2,hb2,<-hs1];exact bg5 _ _
  rw[hw2];exact Tb k1 k2
 have HB2:Hid (w.heap.size<=b2):=Lh (by omega)
 clear hN hA hn hP hk hx hsb hrb;obtain⟨xk,xl,xh⟩:=x;have SY:Hid (X=⟨xk,xl,xh⟩):=Lh hX;have oO:Hid (∀w',Calls prog 48 #[.agg #[Sv xk,.int .i64 xl,.int .i64 xh]] w' (bE w' (.bool rb))):=by
  have h:=Xi.out;rw[SY.out]at h;exact Lh h
 rw[<-hX]at H2 HP EL;unfold bg.cells at hw2 hs1 ⊢;simp only at hw2 hs1;obtain⟨d0,d1,d2⟩:=H2.out.1.d3;rw[SY.out]at d0 d1 d2;simp only at d0 d1 d2;clear hX Xi;go_enter func95,ntmps95;go_upto_region 1 with(fail);rw[<-hw2,<-hb2,<-hb1];clear hw2 hb1 hb2 hs1;go_wp2_with(fail);refine(UM.out w2 H2.out.2.2.1).mono ?_;rintro e w3 ⟨rfl,hB⟩;have H3:Hid (bZ w3 b1 X/\bZ w3 b2 bX/\Bw w w3/\w.heap.size=b1/\b2=b1+1/\b1+2<=w3.heap.size):=by
  obtain⟨k1,k2,k3,k4,k5,k6⟩:=H2.out;exact Lh ⟨k1.below hB,k2.below hB,Tb k3 hB,k4,k5,by have:=hB.size;omega⟩
 clear hB d0 d1 d2 UM H2;obtain⟨d0,d1,d2⟩:=H3.out.1.d3;rw[SY.out]at d0 d1 d2;simp only at d0 d1 d2;dsimp only
 cases sb with
 | false=>
  have HT:Hid (pV l X=(l,bX,[])):=Lh (Hu (λh=>absurd h.1 (of_decide_eq_false Oe.out.symm)));have XZ:Hid (bZ w3 b2 bX/\Bw w w3/\dF w3 sa l/\b2+1<=w3.heap.size):=Lh ⟨H3.out.2.1,H3.out.2.2.1,HA.out.below H3.out.2.2.1,by have:=H3.out.2.2.2;omega⟩
  clear d0 d1 d2;go_upto_region 2 with(fail);refine bg4 ?_
  iterate 3 go_step
  refine kL rfl (.const (Value.slice none 0 0)) (.tmp 22) rfl (b2+1) (.slice none 0 0) [] l rfl (cK.nil _ _) sa sc n HN.out.1 rfl XZ.out.2.2.1 (by have:=HN.out;simp;omega) XZ.out.2.2.2 ?_
  intro vq wq k1 k2 _;rw[List.nil_append]at k1;have H4:Hid (bZ wq b2 bX/\Bw w wq/\cK wq (b2+1) vq l):=by
   have hB:Bw w3 wq:=⟨k2.os,k2.tape,k2.output,k2.size,λk hk=>k2.block k hk (by simp[Value.ownBlock])⟩
   exact Lh ⟨XZ.out.1.below hB,XZ.out.2.1.trans (hB.mono XZ.out.2.1.size),k1⟩
  clear k1 k2
  iterate 6 go_step
  refine bg6 rfl _ _ _ rfl b2 bX.cells rfl rfl 47 bX.cells H4.out.1 dh rfl (dH _) ?_;obtain⟨wz,hwz⟩:=Nm (wq.setRow b2 bX.cells);have HZ:Hid (bZ wz b2 bX/\P (.returned (.tuple #[vq,.agg bX.cells,.slice none 0 0])) wz):=by
   have hg:=bC wq b2 bX.cells;have hBl:Below w.heap.size wq (wq.setRow b2 bX.cells):=⟨hg.os,hg.tape,hg.output,hg.size,λk hk=>hg.block k (by have:=H4.out.2.1.size;omega) (by have:=HB2.out;simp;omega)⟩
   rw[hwz,HP.out,HT.out];refine Lh ⟨H4.out.1.reset bX,vq,.slice none 0 0,rfl,?_,Own.nil _ _ _,H4.out.2.1.trans hBl⟩;exact(H4.out.2.2.kept hg (H4.out.2.2.Po (Nat.lt_succ_self _))).mono (by have:=HB2.out;omega)
  rw[<-hwz];clear hwz;go_wp2_with(fail);exact bodyPost_ret (v:=.tuple #[vq,.agg bX.cells,.slice none 0 0]) ((jE (s:=4) (p:=5) (u:=6) (ty:=47) rfl _ _ b2 47 bX.cells (0,0) _ rfl HZ.out.1 underlying47 rfl dh).trans rfl) rfl HZ.out.2
 | true=>
  go_wp2_with(fail);refine(oO.out w3).mono ?_;rintro e w4 ⟨rfl,hB⟩;have ae:Hid (bZ w4 b1 X/\bZ w4 b2 bX/\Bw w w4/\w.heap.size=b1/\b2=b1+1/\b1+2<=w4.heap.size):=by
   obtain⟨k1,k2,k3,k4,k5,k6⟩:=H3.out;exact Lh ⟨k1.below hB,k2.below hB,Tb k3 hB,k4,k5,by have:=hB.size;omega⟩
  clear hB d0 d1 d2 oO H3;dsimp only
  cases rb with
  | false=>
   have HT:Hid (pV l X=(l,bX,[])):=Lh (Hu (λh=>by rw[<-EL.out]at h;cases h.2))
   have XZ:Hid (bZ w4 b2 bX/\Bw w w4/\dF w4 sa l/\b2+1<=w4.heap.size):=Lh ⟨ae.out.2.1,ae.out.2.2.1,HA.out.below ae.out.2.2.1,by have:=ae.out.2.2.2;omega⟩
   go_upto_region 2 with(fail);refine bg4 ?_
   iterate 3 go_step
   refine kL rfl (.const (Value.slice none 0 0)) (.tmp 22) rfl (b2+1) (.slice none 0 0) [] l rfl (cK.nil _ _) sa sc n HN.out.1 rfl XZ.out.2.2.1 (by have:=HN.out;simp;omega) XZ.out.2.2.2 ?_
   intro vq wq k1 k2 _;rw[List.nil_append]at k1;have H4:Hid (bZ wq b2 bX/\Bw w wq/\cK wq (b2+1) vq l):=by
    have hB:Bw w4 wq:=⟨k2.os,k2.tape,k2.output,k2.size,λk hk=>k2.block k hk (by simp[Value.ownBlock])⟩
    exact Lh ⟨XZ.out.1.below hB,XZ.out.2.1.trans (hB.mono XZ.out.2.1.size),k1⟩
   clear k1 k2
   iterate 6 go_step
   refine bg6 rfl _ _ _ rfl b2 bX.cells rfl rfl 47 bX.cells H4.out.1 dh rfl (dH _) ?_;obtain⟨wz,hwz⟩:=Nm (wq.setRow b2 bX.cells);have HZ:Hid (bZ wz b2 bX/\P (.returned (.tuple #[vq,.agg bX.cells,.slice none 0 0])) wz):=by
    have hg:=bC wq b2 bX.cells;have hBl:Below w.heap.size wq (wq.setRow b2 bX.cells):=⟨hg.os,hg.tape,hg.output,hg.size,λk hk=>hg.block k (by have:=H4.out.2.1.size;omega) (by have:=HB2.out;simp;omega)⟩
    rw[hwz,HP.out,HT.out];refine Lh ⟨H4.out.1.reset bX,vq,.slice none 0 0,rfl,?_,Own.nil _ _ _,H4.out.2.1.trans hBl⟩;exact(H4.out.2.2.kept hg (H4.out.2.2.Po (Nat.lt_succ_self _))).mono (by have:=HB2.out;omega)
   rw[<-hwz];clear hwz;go_wp2_with(fail);exact bodyPost_ret (v:=.tuple #[vq,.agg bX.cells,.slice none 0 0]) ((jE (s:=4) (p:=5) (u:=6) (ty:=47) rfl _ _ b2 47 bX.cells (0,0) _ rfl HZ.out.1 underlying47 rfl dh).trans rfl) rfl HZ.out.2
  | true=>
   have HS:Hid (dD l/\X.bB=true/\pV l X=(mq l X,became l X,lJ l X)):=Lh ⟨bgh Oe.out.symm,EL.out.symm,tY (bgh Oe.out.symm) EL.out.symm⟩;go_upto_region 3 with(fail);refine bg4 ?_
   iterate 9 go_step
   refine FX w4 rfl (.const (.int .i64 0)) (.tmp 27) rfl (b2+1) ((n:Int)+1) (n+1) rfl rfl (by omega) (by omega) (by have:=ae.out.2.2.2.2;omega) ?_
   intro w5 k1 k2;obtain⟨g,hg⟩:=Nm (w4.heap.size);rw[<-hg]at k1 ⊢;have H5:Hid (bZ w5 b1 X/\bZ w5 b2 bX/\Bw w w5/\w.heap.size=b1/\b2=b1+1/\b2<g/\g<w5.heap.size/\cK w5 (b2+1) (.slice (some ⟨g,0,none⟩) 0 (n+1)) []):=by
    obtain⟨j1,j2,j3,j4,j5,j6⟩:=ae.out;have:=k1.lt rfl;exact Lh ⟨j1.below k2,j2.below k2,Tb j3 k2,j4,j5,by omega,this.2,k1⟩
   clear k1 k2 hg ae;obtain⟨d0,d1,d2⟩:=H5.out.1.d3;rw[SY.out]at d0 d1 d2;simp only at d0 d1 d2;go_upto_region 4 with(fail);refine bg4 ?_
   iterate 6 go_step
   refine bg6 rfl _ _ _ rfl w5.heap.size (bg.mk xk xl xh).cells rfl rfl 47 bX.cells (bg5 w5 _) dh rfl (dH _) ?_;obtain⟨w6,SN⟩:=Nm ((w5.alloc (Obj.cells #[.string ⟨#[]⟩,.int .i64 0,.int .i64 0] 47)).setRow w5.heap.size (bg.mk xk xl xh).cells);obtain⟨b3,hb3⟩:=Nm (w5.heap.size);have Hw6:Hid (bZ w6 b3 (bg.mk xk xl xh)/\Bw w5 w6):=by
    obtain⟨k1,k2⟩:=dW w5 (bg.mk xk xl xh);rw[SN,hb3];exact Lh ⟨k1,k2⟩
   have Hb3:Hid (b3=w5.heap.size):=Lh hb3;rw[<-SN,<-hb3];clear SN hb3;have H6:Hid (lV w (b3+1) b1 b2 g b3 (n+1) X X [] (.slice none 0 0) [] w6):=by
    obtain⟨h1,h2,h3,h4,h5,h6,h7,h8⟩:=H5.out;obtain⟨k1,k2⟩:=Hw6.out;have e:=Hb3.out;have hlt:=k1.lt;rw[<-SY.out]at k1;exact Lh ⟨⟨by omega,by omega,by omega,by omega,by omega,by omega⟩,Tb h3 k2,h1.below k2,h2.below k2,k1,h8.far k2,Own.nil _ _ _⟩
   clear d0 d1 d2 H5 Hw6 Hb3;go_wp2_with(fail);go_loopw[7,9,32] (Nq w (b3+1) b1 b2 g b3 (n+1) l X) (λ_ _ i _=>n-(intOf i).toNat)
   case atStart=>exact⟨0,bgi _,rfl,rfl,H6.out⟩
   case round=>
    obtain⟨j,hj,rfl,hv,hT⟩:=hrel;obtain⟨m,hm⟩:=Nm ((fP l X j).length);rw[<-hm]at hv;subst hv;rw[<-HN.out.1]at hj;have HT:=Lh hT;have Hm:=Lh hm;have ES:m<=j:=by rw[hm];exact Dp _ _ _
    clear hT hm;obtain⟨v9,YA⟩:=Nm u9;subst YA;by_cases hlt:j<n
    ·have hi0:(0:Int)<=(j:Int)/\(j:Int)<(n:Int):=by omega
     obtain⟨o,pa,po,ho,hsa,c0,c1,c2⟩:=(HA.out.below HT.out.2.1).get (t:=j) (by rw[<-HN.out.1];exact hlt)
     subst hsa;have HO:=Lh (bfy ho (bfy hlt ES));have iP:Hid (o.bB=true):=Lh (HS.out.1.1 o (bf3 ho));obtain⟨ok,ol,oh⟩:=o;simp only at c0 c1 c2;clear ho hj hlt ES;go_upto_region 8 with(fail);refine bg4 ?_
     iterate 15 go_step
     refine bg6 rfl _ _ _ rfl wr.heap.size (bg.mk ok ol oh).cells rfl rfl 47 bX.cells (bg5 wr _) dh rfl (dH _) ?_;obtain⟨W1,hwx⟩:=Nm ((wr.alloc (Obj.cells #[.string ⟨#[]⟩,.int .i64 0,.int .i64 0] 47)).setRow wr.heap.size (bg.mk ok ol oh).cells);obtain⟨ob,Vm⟩:=Nm (wr.heap.size);have Sn:Hid (bZ W1 ob (bg.mk ok ol oh)/\Bw wr W1):=by
      obtain⟨k1,k2⟩:=dW wr (bg.mk ok ol oh);rw[hwx,Vm];exact Lh ⟨k1,k2⟩
     have Oc:Hid (b3+1<=ob):=Lh (by rw[Vm];exact HT.out.1.2.2.2.2.2)
     rw[<-hwx,<-Vm];clear hwx Vm;clear c0 c1 c2;have H1:Hid (lV w (b3+1) b1 b2 g b3 (n+1) X (gM l X j) (fP l X j) v9 (fK l X j) W1):=Lh (HT.out.below Sn.out.2);clear HT;obtain⟨jb,hjb⟩:=Nm (dK ⟨ok,ol,oh⟩ X);have HJ:Hid (∀w',Calls prog 114 #[.agg #[Sv ok,.int .i64 ol,.int .i64 oh],.agg #[Sv xk,.int .i64 xl,.int .i64 xh]] w' (bE w' (.bool jb))):=by
      rw[hjb,<-vK iP.out HS.out.2.1,SY.out];exact Lh (λw'=>Du w' ⟨ok,ol,oh⟩ ⟨xk,xl,xh⟩)
     have aV:=Lh hjb;clear hjb;obtain⟨d0,d1,d2⟩:=H1.out.2.2.1.d3;rw[SY.out]at d0 d1 d2;obtain⟨e0,e1,e2⟩:=Sn.out.1.d3;simp only at d0 d1 d2 e0 e1 e2;go_wp2_with(fail);refine(HJ.out W1).mono ?_;rintro e w4_ ⟨rfl,hB⟩;have H4:Hid (lV w (b3+1) b1 b2 g b3 (n+1) X (gM l X j) (fP l X j) v9 (fK l X j) w4_/\bZ w4_ ob ⟨ok,ol,oh⟩/\b3+1<=ob):=Lh ⟨H1.out.below hB,Sn.out.1.below hB,Oc.out⟩;clear hB d0 d1 d2 e0 e1 e2;dsimp only
     cases jb with
     | true=>
      have HG:Hid (fK l X (j+1)=fK l X j++[j]/\fP l X (j+1)=fP l X j/\gM l X (j+1)=rD (gM l X j) ⟨ok,ol,oh⟩):=by
       rw[pq HO.out.1,pK HO.out.1,pF HO.out.1,<-aV.out];exact Lh ⟨rfl,by simp,Gx aV.out.symm⟩
      obtain⟨y,hy⟩:=Nm (gM l X j);rw[<-hy]at H4 HG;clear hy;obtain⟨yk,yl,yh⟩:=y;obtain⟨u,hu⟩:=Nm (rD ⟨yk,yl,yh⟩ ⟨ok,ol,oh⟩);have HWc:Hid (∀w',Calls prog 119 #[.agg #[Sv yk,.int .i64 yl,.int .i64 yh],.agg #[Sv ok,.int .i64 ol,.int .i64 oh]] w' (bE w' (.agg u.cells))):=by
       rw[hu];exact Lh (λw'=>Kw w' ⟨yk,yl,yh⟩ ⟨ok,ol,oh⟩)
      rw[<-hu]at HG;clear hu;obtain⟨d0,d1,d2⟩:=H4.out.1.2.2.2.2.1.d3;obtain⟨e0,e1,e2⟩:=H4.out.2.1.d3;simp only at d0 d1 d2 e0 e1 e2;go_upto_region 11 with(fail);refine bg4 ?_
      iterate 6 go_step
      refine wpList_plain rfl λK hK=>?_;go_step;refine(HWc.out w4_).mono ?_;rintro e w5 ⟨rfl,hB⟩;refine hK _ _ ?_;clear hK;have H5:Hid (lV w (b3+1) b1 b2 g b3 (n+1) X ⟨yk,yl,yh⟩ (fP l X j) v9 (fK l X j) w5):=Lh (H4.out.1.below hB);clear hB d0 d1 d2 e0 e1 e2 H4;refine bg6 rfl _ _ _ rfl b3 u.cells rfl rfl 47 (bg.mk yk yl yh).cells H5.out.2.2.2.2.1 dh rfl (dH _) ?_;obtain⟨w6_,SN⟩:=Nm (w5.setRow b3 u.cells);have H6_:Hid (lV w (b3+1) b1 b2 g b3 (n+1) X u (fP l X j) v9 (fK l X j) w6_):=by
       rw[SN];exact Lh (H5.out.set (H5.out.2.2.2.2.1.reset u) (bC w5 b3 u.cells))
      rw[<-SN];clear SN H5;go_upto_region 12 with(fail);refine bg4 ?_
      iterate 9 go_step
      have Oa:Hid ((nK (fK l X j)).length+1<=1000):=Lh (by have h:=CZ l X j;have:=HO.out.2.1;simp only[nK,bfz];omega)
      have H7:Hid (lV w (b3+1) b1 b2 g b3 (n+1) X u (fP l X j) v9 (fK l X j) (w6_.alloc (.cells #[.int .i64 (j:Int)] 3))):=by
       have hB:=(Below.refl _ w6_).alloc (bfx _) (.cells #[.int .i64 (j:Int)] 3);exact Lh (H6_.out.below hB)
      refine y9 underlying48 Qw rfl rfl (.tmp 48) (.tmp 50) rfl (b3+1) v9 (nK (fK l X j)) rfl H7.out.2.2.2.2.2.2 (.int .i64 (j:Int)) w6_.heap.size rfl (by rw[cell_of_row _ _ _ _ _ _ (bg5 w6_ _)];rfl) rfl Oa.out H7.out.1.2.2.2.2.2 (by decide) ?_
      intro g' w7 k1 k2 k3;have H8:Hid (Nq w (b3+1) b1 b2 g b3 (n+1) l X (.slice (some ⟨g,0,none⟩) m (n+1)) g' (.int .i64 ((j:Int)+1)) w7):=by
       have k1':nU w7 (b3+1) g' (fK l X (j+1)):=by
        rw[HG.out.1];unfold nU nK;rw[bgl];exact k1
       have h:=H7.out.Pm k1' k2;refine Lh ⟨j+1,by have:=HO.out.2.1;have:=HN.out.1;omega,by go_num,by rw[HG.out.2.1,Hm.out],?_⟩
       rw[HG.out.2.1,HG.out.2.2];exact h
      clear k1 k2 k3;have SX:=Lh HO.out.2.1;go_wp2_with(fail);go_roundw
      case rel=>exact H8.out
      case measure=>have:=SX.out;simp[intOf];omega
     | false=>
      have HG:Hid (fK l X (j+1)=fK l X j/\fP l X (j+1)=fP l X j++[⟨ok,ol,oh⟩]/\gM l X (j+1)=gM l X j):=by
       rw[pq HO.out.1,pK HO.out.1,pF HO.out.1,jK,<-aV.out];exact Lh ⟨by simp,rfl,rfl⟩
      obtain⟨e0,e1,e2⟩:=H4.out.2.1.d3;simp only at e0 e1 e2;go_upto_region 10 with(fail);refine bg4 ?_
      iterate 6 go_step
      refine fE rfl (.tmp 42) rfl ⟨ok,ol,oh⟩ rfl ?_;obtain⟨w8,hw8⟩:=Nm (w4_.alloc (.cells (bg.mk ok ol oh).cells 47));obtain⟨gb,hgb⟩:=Nm (w4_.heap.size);have H8:Hid (lV w (b3+1) b1 b2 g b3 (n+1) X (gM l X j) (fP l X j) v9 (fK l X j) w8/\(∀j z,(bg.mk ok ol oh).cells[j]? =some z->w8.cell? ⟨gb,j,none⟩=some z)):=by
       have hB:Bw w4_ w8:=by rw[hw8];exact(Below.refl _ w4_).alloc (bfx _) _
       refine Lh ⟨H4.out.1.below hB,λj z hz=>?_⟩;rw[hw8,hgb,cell_of_row _ _ _ _ _ _ (bg5 w4_ _)];exact hz
      rw[<-hw8,<-hgb];clear hw8 hgb e0 e1 e2;have Od:Hid (cK w8 (b2+1) (.slice (some ⟨g,0,none⟩) m (n+1)) (fP l X j)):=by
       have h:=H8.out.1.2.2.2.2.2.1;rw[<-Hm.out]at h;exact Lh h
      refine xD rfl (.tmp 41) (.tmp 43) rfl rfl Od.out Hm.out ⟨ok,ol,oh⟩ gb rfl H8.out.2 (by have:=HO.out.2;omega) ?_
      intro w9 g1 g2;have H9:Hid (Nq w (b3+1) b1 b2 g b3 (n+1) l X (.slice (some ⟨g,0,none⟩) (m+1) (n+1)) v9 (.int .i64 ((j:Int)+1)) w9):=by
       have e:(fP l X j++[bg.mk ok ol oh]).length=m+1:=by rw[bft,Hm.out];rfl
       refine Lh ⟨j+1,by have:=HO.out.2;have:=HN.out.1;omega,by go_num,by rw[HG.out.2.1,e],?_⟩
       rw[HG.out.1,HG.out.2.1,HG.out.2.2];exact H8.out.1.GY (by rw[e];exact g1) g2
      clear g1 g2;have SX:=Lh HO.out.2.1;go_wp2_with(fail);go_roundw
      case rel=>exact H9.out
      case measure=>have:=SX.out;simp[intOf];omega
    obtain rfl:j=n:=by omega
    have WU:Hid (lV w (b3+1) b1 b2 g b3 (j+1) X (became l X) (kH l X) v9 (lJ l X) wr/\m=(kH l X).length):=by
     have h:=HT.out;have h2:=Hm.out;rw[HN.out.1]at h2;rw[vL]at h2;have e:lV w (b3+1) b1 b2 g b3 (j+1) X (gM l X l.length) (fP l X l.length) v9 (fK l X l.length) wr:=by
      have:=h;rw[<-HN.out.1];exact this
     rw[Ba,vL,zU]at e;exact Lh ⟨e,h2⟩
    obtain⟨out,Si⟩:=Nm (kH l X);obtain⟨y,hy⟩:=Nm (became l X);obtain⟨gv,hgv⟩:=Nm (lJ l X);have o5:Hid (∀p,ky out y p->out.take p++[y]++out.drop p=mq l X):=by
     rw[Si,hy];exact Lh (λp hp=>xB HS.out.1 HS.out.2.1 hp)
    have iQ:Hid (out.Pairwise bJ):=by
     rw[Si];exact Lh ((HS.out.1.2.imp (λh=>h.1)).sublist List.filter_sublist)
    have TI:Hid (∀wz v4 B,cK wz B v4 (mq l X)->nU wz (b3+1) v9 gv->Bw w wz->w.heap.size<=B->w.heap.size<=b3->P (.returned (.tuple #[v4,.agg y.cells,v9])) wz):=by
     refine Lh (λwz v4 B h1 h2 h3 h4 h5=>?_);rw[HP.out,HS.out.2.2];refine⟨v4,v9,by rw[hy],h1.mono h4,?_,h3⟩
     rw[<-hgv];exact Own.mono h2 (by omega)
    rw[<-Si,<-hy,<-hgv]at WU;have Ob:Hid (m<=j/\j<=900):=Lh ⟨ES,Tx⟩;clear Si hy hgv HT Hm hlt hj ES HS;obtain⟨VY,Ws⟩:=Nm (Value.agg y.cells);have HV:=Lh Ws;have El:Hid (∀w',dF w' (some ⟨g,0,none⟩) out->Calls prog 120 #[.slice (some ⟨g,0,none⟩) m (j+1),VY,.func (.func 54) #[] #[]] w' (DR w' out y)):=by
     rw[Ws,WU.out.2];exact Lh (λw' h=>Gi w' _ _ out y h iQ.out (by rw[<-WU.out.2];have:=Ob.out;omega))
    have IU:Hid (∀wz v4 B,cK wz B v4 (mq l X)->nU wz (b3+1) v9 gv->Bw w wz->w.heap.size<=B->w.heap.size<=b3->P (.returned (.tuple #[v4,VY,v9])) wz):=by rw[Ws];exact TI
    clear Ws;obtain⟨yk,yl,yh⟩:=y;have HVe:Hid (VY=.agg #[Sv yk,.int .i64 yl,.int .i64 yh]):=Lh HV.out;obtain⟨d0,d1,d2⟩:=WU.out.1.2.2.2.2.1.d3;simp only at d0 d1 d2;go_wp2_with(fail);rw[<-HVe.out];refine(El.out wr (by obtain⟨a,c,e,_,hW⟩:=WU.out.1.2.2.2.2.2.1.form;cases e;exact hW)).mono ?_
    rintro e w4_ ⟨p,fb,rfl,hp,hB⟩;have hpm:p<=m:=by rw[WU.out.2];exact hp.1
    obtain⟨M,hM⟩:=Nm (out.take p++[⟨yk,yl,yh⟩]++out.drop p);have HM:Hid (M=mq l X/\M=out.take p++[⟨yk,yl,yh⟩]++out.drop p/\M.length=m+1/\p<=out.length/\m=out.length):=by
     refine Lh ⟨hM.trans (o5.out p hp),hM,?_,hp.1,WU.out.2⟩;rw[hM];simp;have:=WU.out.2;omega
    have H4:Hid (lV w (b3+1) b1 b2 g b3 (j+1) X ⟨yk,yl,yh⟩ out v9 gv w4_):=Lh (WU.out.1.below hB);clear hB hp hM d0 d1 d2 El o5 WU iQ;obtain⟨Y,hY⟩:=Nm (bg.mk yk yl yh);rw[<-hY]at H4 HM HV;have ZI:Hid (VY=Value.agg Y.cells):=Lh HV.out;have iV:Hid (Value.agg Y.cells=Value.agg (bg.mk yk yl yh).cells):=by rw[hY];exact Lh rfl
    clear hY HV HVe TI;have SA:Hid (w.heap.size<=b2+1/\w.heap.size<=b3):=Lh (by have:=H4.out.1;omega)
    have SB:Hid (PG w (b3+1) b1 b2 g b3 (j+1) X Y out M v9 gv 0 w4_.drew):=Lh (H4.out.below (Below.refl _ w4_).drew);have oV:Hid (∀k w',PG w (b3+1) b1 b2 g b3 (j+1) X Y out M v9 gv k w'->bZ w' b3 Y):=Lh (λk w' h=>PG.row h);clear H4;dsimp only;go_upto_region 15 with(fail);refine bD (λi=>([]:List Nat).contains i) (by kernel_rfl) [none,none,none,some 0,some 1,none,none,none,some 2,none] [3,4,8] (V4 ((Value.slice (some ⟨g,0,none⟩) m (j+1))::(Value.int .i64 (p:Int))::VY::undef::(Value.slice (some ⟨g,0,none⟩) (m+1) (j+1))::VY::v9::(Value.slice (some ⟨g,0,none⟩) (m+1) (j+1))::undef::v9::([]:List Value)) 3 (λk w' v=>k=1->∃gb,v=.slice (some ⟨gb,0,none⟩) 1 1/\bZ w' gb Y/\b3<gb) 99 (λ_ _ _=>True) 98 (λ_ _ _=>True) 97 (λ_ _ _=>True)) (PG w (b3+1) b1 b2 g b3 (j+1) X Y out M v9 gv) (λw w'=>Bw w w') (qm _ (λk w w' v h ha hk=>by obtain⟨gb,h1,h2,h3⟩:=ha hk;exact⟨gb,h1,h2.below h,h3⟩) (λ_ _ _ _ _ h=>h) (λ_ _ _ _ _ h=>h) (λ_ _ _ _ _ h=>h)) (by kernel_rfl) (by kernel_rfl) (by kernel_rfl) SB.out (λ_=>⟨rfl,rfl,rfl,rfl,rfl,rfl,rfl,rfl,rfl,rfl,trivial⟩) (λ_ h=>by simp at h) ?_ ?_
    ·refine ⟨?_,?_,?_,?_,?_,?_,?_,?_,?_,?_,trivial⟩<;>(first|(intro _ _ a w' hG Si Sj K hK;guard_hyp w':World)|intro _ a w' hG Si Sj K hK)<;>replace Si:=Lh Si<;>replace Sj:=Lh Sj
     have q7:=FoA Si 7 (.slice (some ⟨g,0,none⟩) m (j+1));rotate_left;have VU:=FiA Si 12 p;rotate_left
     ·have q8:=FaA Si 8 b3 0;obtain⟨d0,d1,d2⟩:=(oV.out _ _ hG).d3;go_step;exact hK _ _ ZI.out.symm hG Br
     ·obtain ⟨p0,_⟩:=Sj.out;have Un:=(show a.eval (.tmp 61)=VY from p0);clear p0;rw[ZI.out]at Un;refine za (.tmp 61) rfl Y Un ?_;have hB:Bw w' (w'.alloc (.cells Y.cells 47)):=(Below.refl _ w').alloc (bfx _) _;have hG1:lV w (b3+1) b1 b2 g b3 (j+1) X Y out v9 gv w':=hG;exact hK _ _ (λ_=>⟨w'.heap.size,rfl,bg5 w' _,hG1.1.2.2.2.2.2⟩) (hG1.below hB) (jq (.inl rfl) (.inr λ_ h=>h) (.inr λ_ h=>h) (.inr λ_ h=>h))
     ·obtain ⟨p0,p1,p2,_⟩:=Sj.out;have q59:=Ep a 59 (.slice (some ⟨g,0,none⟩) m (j+1)) p0;have q60:=Pi a 60 p p1;obtain⟨gb,hv,hr,hgb⟩:=(show(1=1)->(∃gb,a.eval (.tmp 62)=.slice (some ⟨gb,0,none⟩) 1 1/\bZ w' gb Y/\b3<gb)from p2) rfl;have q62:=bf hv;have hG1:lV w (b3+1) b1 b2 g b3 (j+1) X Y out v9 gv w':=hG;have HS2:Hid (Calls prog 121 #[.slice (some ⟨g,0,none⟩) m (j+1),.int .i64 (p:Int),.slice (some ⟨gb,0,none⟩) 1 1] w' (λe w3=>e=.returned (.slice (some ⟨g,0,none⟩) (m+1) (j+1))/\cK w3 (b2+1) (.slice (some ⟨g,0,none⟩) (m+1) (j+1)) M/\w'.grownBy w3 (some g))):=by
       have h:=JL w' (b2+1) g (j+1) p gb out Y hG1.2.2.2.2.2.1 hr (by have:=hG1.1;omega) HM.out.2.2.2.1 (by have:=HM.out.2.2.2.2;have:=Ob.out;omega) (by have:=Ob.out;omega)
       rw[<-HM.out.2.2.2.2,<-HM.out.2.1]at h;exact Lh h
      have WN:=Lh hG1;clear p0 p1 p2 hv hr hgb hG hG1;go_step;refine HS2.out.mono ?_;rintro e w3 ⟨rfl,k1,k2⟩;exact hK _ _ rfl (WN.out.GY (by rw[HM.out.2.2.1];exact k1) k2) (jq (.inr λu _ hk=>absurd hk (by decide)) (.inr λ_ h=>h) (.inr λ_ h=>h) (.inr λ_ h=>h))
     ·have q8:=FaA Si 8 b3 0;obtain⟨d0,d1,d2⟩:=(oV.out _ _ hG).d3;go_step;exact hK _ _ ZI.out.symm hG Br
     have q9:=FoA Si 9 v9;rotate_left;have q63:=Ep a 63 (.slice (some ⟨g,0,none⟩) (m+1) (j+1)) Sj.out.1;rotate_left
     ·obtain ⟨p0,_⟩:=Sj.out;have Uo:=(show a.eval (.tmp 64)=VY from p0);have q5:=((Si.out 5 rfl).trans (show _=Value.pointer (some ⟨b2,0,none⟩)from rfl));have hG1:lV w (b3+1) b1 b2 g b3 (j+1) X Y M v9 gv w':=hG;rw[ZI.out]at Uo;clear p0 hG;refine tZ (.tmp 5) (.tmp 64) rfl b2 Y bX q5 Uo hG1.2.2.2.1 ?_;obtain⟨⟨a1,a2,a3,a4,a5,a6⟩,h1,h2,h3,h4,h5,h6⟩:=hG1;have hg:=bC w' b2 Y.cells;have hBl:Below w.heap.size w' (w'.setRow b2 Y.cells):=⟨hg.os,hg.tape,hg.output,hg.size,λk hk=>hg.block k (by have:=h1.size;omega) (by simp;omega)⟩
      exact hK _ _ rfl ⟨h4.grown hg (by simp;omega),h3.reset Y,h5.kept hg (.inr (by simp[Value.ownBlock];omega)),h6.kept hg (.inr (λe=>by have:=Own.lt h6 e;omega)),h1.trans hBl⟩ (jq (.inr λu _ hk=>absurd hk (by decide)) (.inr λ_ h=>h) (.inr λ_ h=>h) (.inr λ_ h=>h))
     have q65:=Ep a 65 v9 Sj.out.1;rotate_left
     all_goals(go_step;exact hK _ _ rfl hG Br)
    intro vs w2_ hG hlen hV
    match vs,hlen,hV with
    | [v0,v1,v2,v3,v4,v5,v6,v7,v8,v9_],_,hV=>
     obtain rfl:v7=.slice (some ⟨g,0,none⟩) (m+1) (j+1):=hV 7 4 v7 rfl rfl;obtain rfl:v9_=v9:=hV 9 6 v9_ rfl rfl;have hG1:bZ w2_ b3 Y/\bZ w2_ b2 Y/\cK w2_ (b2+1) (.slice (some ⟨g,0,none⟩) M.length (j+1)) M/\nU w2_ (b3+1) v9_ gv/\Bw w w2_:=hG;have HZ:Hid (bZ w2_ b2 Y/\P (.returned (.tuple #[.slice (some ⟨g,0,none⟩) (m+1) (j+1),.agg Y.cells,v9_])) w2_):=by
      have h:=IU.out w2_ (.slice (some ⟨g,0,none⟩) (m+1) (j+1)) (b2+1) (by rw[<-HM.out.1,<-HM.out.2.2.1];exact hG1.2.2.1) hG1.2.2.2.1 hG1.2.2.2.2 SA.out.1 SA.out.2
      rw[ZI.out]at h;exact Lh ⟨hG1.2.1,h⟩
     clear hV hG hG1;simp only[dG,bf7,bf1];simp only[Act.put,bfw,bfu,bfv];go_wp2_with(fail);exact bodyPost_ret (v:=.tuple #[.slice (some ⟨g,0,none⟩) (m+1) (j+1),.agg Y.cells,v9_]) ((jE (s:=4) (p:=5) (u:=6) (ty:=47) rfl _ _ b2 47 Y.cells (0,0) _ rfl HZ.out.1 underlying47 rfl dh).trans rfl) rfl HZ.out.2
end Go.Proofs.YtjeeghafachebaaGreat
