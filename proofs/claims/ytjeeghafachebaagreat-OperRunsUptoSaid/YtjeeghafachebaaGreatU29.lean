/-
  29.
-/
import Derived.Shelf.SlicesQ.Contains
import Derived.Test.YtjeeghafachebaaGreatU28
import Derived.Test.YtjeeghafachebaaGreatU26
namespace Go.Proofs
open Go.Shelf
def Tryz.JK:Go.Shelf.Ren:=⟨fun | 6=>96 | n=>n,fun | 22=>84 | 24=>47 | 3=>3 | 0=>0 | 4=>4 | n=>n,fun | n=>n⟩
theorem Tryz.QU:Go.Proofs.SlLaysQ.n6 prog Tryz.JK:={
 mixed:=by kernel_rfl
 f6:=⟨Tryz.f96.name,by decide,func96.trans (congrArg some (by kernel_rfl))⟩
 t0:=underlying0
 a0:=Tryz.isAgg0
 z0:=sizeOf0
 v0:=Tryz.zeroValue0
 t3:=underlying3
 a3:=Tryz.isAgg3
 z3:=sizeOf3
 v3:=Tryz.zeroValue3
 t4:=underlying4
 a4:=Tryz.isAgg4
 z4:=sizeOf4
 v4:=Tryz.zeroValue4
 t22:=underlying84
 a22:=Tryz.isAgg84
 z22:=sizeOf84
 v22:=Tryz.zeroValue84 }
def Tryz.Cn:Go.Shelf.Ren:=⟨fun | 7=>87 | 6=>96 | n=>n,fun | 22=>84 | 24=>47 | 4=>4 | 0=>0 | 3=>3 | n=>n,fun | n=>n⟩
theorem Tryz.LD:Go.Proofs.SlLaysQ.n7 prog Tryz.Cn:={
 mixed:=by kernel_rfl
 f6:=⟨Tryz.f96.name,by decide,func96.trans (congrArg some (by kernel_rfl))⟩
 f7:=⟨Tryz.f87.name,by decide,func87.trans (congrArg some (by kernel_rfl))⟩
 t0:=underlying0
 a0:=Tryz.isAgg0
 z0:=sizeOf0
 v0:=Tryz.zeroValue0
 t3:=underlying3
 a3:=Tryz.isAgg3
 z3:=sizeOf3
 v3:=Tryz.zeroValue3
 t4:=underlying4
 a4:=Tryz.isAgg4
 z4:=sizeOf4
 v4:=Tryz.zeroValue4
 t22:=underlying84
 a22:=Tryz.isAgg84
 z22:=sizeOf84
 v22:=Tryz.zeroValue84 }
def Tryz.Js:Go.Shelf.Ren:=⟨fun | 41=>36 | n=>n,fun | 22=>27 | 23=>55 | 4=>4 | n=>n,fun | n=>n⟩
theorem Tryz.NN:Go.Proofs.SlLaysE0.n41 prog Tryz.Js:={
 mixed:=by kernel_rfl
 f41:=⟨Tryz.f36.name,by decide,func36.trans (congrArg some (by kernel_rfl))⟩
 t4:=underlying4
 a4:=Tryz.isAgg4
 z4:=sizeOf4
 v4:=Tryz.zeroValue4
 t22:=underlying27
 a22:=Tryz.isAgg27
 z22:=sizeOf27
 v22:=Tryz.zeroValue27 }
def Tryz.MP:Go.Shelf.Ren:=⟨fun | 6=>67 | 15=>106 | 14=>105 | 28=>133 | 29=>134 | 20=>125 | 21=>126 | 22=>127 | 23=>128 | 24=>129 | 25=>130 | 26=>131 | 27=>132 | 46=>147 | 47=>148 | 48=>149 | 49=>150 | 50=>151 | 57=>158 | n=>n,fun | 22=>30 | 24=>50 | 25=>101 | 3=>3 | 39=>130 | 0=>0 | 53=>149 | 55=>151 | 4=>4 | 46=>143 | 45=>142 | 50=>118 | 5=>5 | 9=>9 | 66=>163 | 70=>167 | 76=>173 | 77=>73 | n=>n,fun | n=>n⟩
theorem Tryz.pU:Go.Proofs.SlLaysF0.n6 prog Tryz.MP:={
 mixed:=by kernel_rfl
 f6:=⟨Tryz.f67.name,by decide,func67.trans (congrArg some (by kernel_rfl))⟩
 f14:=⟨Tryz.f105.name,by decide,func105.trans (congrArg some (by kernel_rfl))⟩
 f15:=func106.trans (congrArg some (by kernel_rfl))
 f20:=⟨Tryz.f125.name,by decide,func125.trans (congrArg some (by kernel_rfl))⟩
 f21:=⟨Tryz.f126.name,by decide,func126.trans (congrArg some (by kernel_rfl))⟩
 f22:=⟨Tryz.f127.name,by decide,func127.trans (congrArg some (by kernel_rfl))⟩
 f23:=⟨Tryz.f128.name,by decide,func128.trans (congrArg some (by kernel_rfl))⟩
 f24:=⟨Tryz.f129.name,by decide,func129.trans (congrArg some (by kernel_rfl))⟩
 f25:=⟨Tryz.f130.name,by decide,func130.trans (congrArg some (by kernel_rfl))⟩
 f26:=⟨Tryz.f131.name,by decide,func131.trans (congrArg some (by kernel_rfl))⟩
 f27:=⟨Tryz.f132.name,by decide,func132.trans (congrArg some (by kernel_rfl))⟩
 f28:=func133.trans (congrArg some (by kernel_rfl))
 f29:=func134.trans (congrArg some (by kernel_rfl))
 f46:=⟨Tryz.f147.name,by decide,func147.trans (congrArg some (by kernel_rfl))⟩
 f47:=func148.trans (congrArg some (by kernel_rfl))
 f48:=func149.trans (congrArg some (by kernel_rfl))
 f49:=⟨Tryz.f150.name,by decide,func150.trans (congrArg some (by kernel_rfl))⟩
 f50:=⟨Tryz.f151.name,by decide,func151.trans (congrArg some (by kernel_rfl))⟩
 f57:=⟨Tryz.f158.name,by decide,func158.trans (congrArg some (by kernel_rfl))⟩
 t0:=underlying0
 a0:=Tryz.isAgg0
 z0:=sizeOf0
 v0:=Tryz.zeroValue0
 t3:=underlying3
 a3:=Tryz.isAgg3
 z3:=sizeOf3
 v3:=Tryz.zeroValue3
 t4:=underlying4
 a4:=Tryz.isAgg4
 z4:=sizeOf4
 v4:=Tryz.zeroValue4
 t5:=underlying5
 a5:=Tryz.isAgg5
 z5:=sizeOf5
 v5:=Tryz.zeroValue5
 t9:=underlying9
 a9:=Tryz.isAgg9
 z9:=sizeOf9
 v9:=Tryz.zeroValue9
 t22:=underlying30
 a22:=Tryz.isAgg30
 z22:=sizeOf30
 v22:=Tryz.zeroValue30
 t25:=underlying101
 a25:=Tryz.isAgg101
 z25:=sizeOf101
 v25:=Tryz.zeroValue101
 t39:=underlying130
 a39:=Tryz.isAgg130
 z39:=sizeOf130
 v39:=Tryz.zeroValue130
 t45:=underlying142
 a45:=Tryz.isAgg142
 z45:=sizeOf142
 v45:=Tryz.zeroValue142
 t46:=underlying143
 a46:=Tryz.isAgg143
 z46:=sizeOf143
 v46:=Tryz.zeroValue143
 t50:=underlying118
 a50:=Tryz.isAgg118
 z50:=sizeOf118
 v50:=Tryz.zeroValue118
 t53:=underlying149
 a53:=Tryz.isAgg149
 z53:=sizeOf149
 v53:=Tryz.zeroValue149
 t55:=underlying151
 a55:=Tryz.isAgg151
 z55:=sizeOf151
 v55:=Tryz.zeroValue151
 t66:=underlying163
 a66:=Tryz.isAgg163
 z66:=sizeOf163
 v66:=Tryz.zeroValue163
 t70:=underlying167
 a70:=Tryz.isAgg167
 z70:=sizeOf167
 v70:=Tryz.zeroValue167
 t76:=underlying173
 a76:=Tryz.isAgg173
 z76:=sizeOf173
 v76:=Tryz.zeroValue173
 t77:=underlying73
 a77:=Tryz.isAgg73
 z77:=sizeOf73
 v77:=Tryz.zeroValue73 }
end Go.Proofs
namespace Go.Proofs.YtjeeghafachebaaGreat
open Go Go.RowKit Go.Shelf Go.Proofs.Tryz
def enc3(x:bg):List Value:=[Sv x.key,.int .i64 x.lo,.int .i64 x.hi]
theorem Jz(x:bg):(enc3 x).toArray=x.cells:=rfl
theorem Rs:EqlAt prog 47 (λx=> .agg (enc3 x).toArray) lq:=
 ⟨λx y w=>jo w x y,λop a b x y w=>fT w op a b x y⟩
instance:Inhabited bg:=⟨bX⟩
theorem KR {w:World} {b o:Nat} {l:List bg}(h:∀i x,l[i]? =some x->∀j v,x.cells[j]? =some v->w.cell? ⟨b,o+i*3+j,none⟩=some v):∀j,j<l.length->∀i v,(enc3 l[j]!)[i]? =some v->w.cell? ⟨b,o+j*3+i,none⟩=some v:=by
 intro j hj i v hv;refine h j l[j]! ?_ i v ?_
 ·rw[getElem!_pos l j hj];exact bfs hj
 rw[<-Jz];simpa using hv
theorem Cm(w:World)(a:Option Addr)(c:Nat)(l:List bg)(x:bg)(hA:dF w a l)(hne:l≠[])(hn:l.length<=1000000):
  Calls prog 87 #[.slice a l.length c,.agg x.cells] w (bE w (.bool (decide (x∈l)))):=by
 rcases hA with h | ⟨b,o,rfl,h⟩
 ·exact absurd h hne
 refine(AnyQ.slices_Contains Tryz.LD 3 Tryz.isAgg47 sizeOf47 enc3 (λ_=>rfl) lq Rs b o l.length c l x w (bfx _) (by omega) (KR h)).mono ?_
 rintro e w' ⟨rfl,hB⟩;refine⟨?_,hB⟩;rw[bgs]
 congr 2
 refine Bool.eq_iff_iff.2 ?_;rw[List.any_eq_true,bf0];constructor
 ·rintro⟨y,hy,hs⟩;rw[(ku x y).1 hs];exact hy
 intro hx;exact⟨x,hx,(ku x x).2 rfl⟩
theorem Gy:∀(A B:List bg) (x:bg) (i:Nat),x ∉ A->Lib.idxByFrom lq x (A++x::B) i=((i+A.length:Nat):Int)
 | [],B,x,i,_=>by
  simp only[List.nil_append,Lib.idxByFrom,(ku x x).2 rfl,if_true,List.length_nil,Nat.add_zero]
 | y::A,B,x,i,h=>by
  have hy:lq x y=false:=by
   rw[Bool.eq_false_iff];intro h';exact h (by rw[(ku x y).1 h'];simp)
  have ih:=Gy A B x (i+1) (λh'=>h (by simp[h']))
  simp only[List.cons_append,Lib.idxByFrom,hy,bgy];rw[if_neg (by simp),ih]
  congr 1
  omega
theorem P5(A B:List bg)(x:bg)(h:x ∉ A):Lib.idxBy lq (A++x::B) x=(A.length:Int):=by
 rw[Lib.idxBy,Gy A B x 0 h,bgu]
theorem JJ(w:World)(a:Option Addr)(c:Nat)(A B:List bg)(x:bg)(n:Nat)(hN:n=(A++x::B).length)(hA:dF w a (A++x::B))(hx:x ∉ A)(hn:n<=1000000):
  Calls prog 96 #[.slice a n c,.agg x.cells] w (bE w (.int .i64 (A.length:Int))):=by
 subst hN;rcases hA with h | ⟨b,o,rfl,h⟩
 ·simp at h
 refine(AnyQ.slices_Index Tryz.QU 3 Tryz.isAgg47 sizeOf47 enc3 (λ_=>rfl) lq Rs b o _ c (A++x::B) x w (bfx _) (by omega) (KR h)).mono ?_
 rintro e w' ⟨rfl,q,rfl⟩;rw[bgs,P5 A B x hx];exact⟨rfl,below_draws ((Below.refl _ w).alloc (bfx _) _) q⟩
def Rq(w:World)(b:Nat):Prop:=∃cur,w.heap[b]? =some (.cells cur 55 (0,0))
theorem Rq.lt {w:World} {b:Nat}(h:Rq w b):b<w.heap.size:=by
 obtain⟨_,h⟩:=h;exact(Array.getElem?_eq_some_iff.1 h).1
def bO(w:World)(v:Value)(l:List bn):Prop:=
 ∃a c,v=.slice a l.length c/\l.length<=c/\((a=none/\l=[])∨∃b o,a=some ⟨b,o,none⟩/\(l=[]∨Rq w b)/\∀i x,l[i]? =some x->∀j u,x.cells[j]? =some u->w.cell? ⟨b,o+i*8+j,none⟩=some u)
theorem bO.below {w w':World} {v:Value} {l:List bn}(h:bO w v l)(hB:Bw w w'):bO w' v l:=by
 obtain⟨a,c,e,hc,h⟩:=h;refine⟨a,c,e,hc,?_⟩;rcases h with h | ⟨b,o,h,ht,h'⟩
 ·exact .inl h
 exact .inr ⟨b,o,h,ht.imp id (λ⟨cur,k⟩=>⟨cur,(hB.block b (Rq.lt ⟨cur,k⟩)).trans k⟩),λi x hx j u hu=>(hB.cell (block_lt_of_cell (h' i x hx j u hu))).trans (h' i x hx j u hu)⟩
theorem bO.form {w:World} {v:Value} {l:List bn}(h:bO w v l):∃a c,v=.slice a l.length c/\l.length<=c/\dI w a l:=by
 obtain⟨a,c,e,hc,h⟩:=h;refine⟨a,c,e,hc,?_⟩;rcases h with h | ⟨b,o,h,_,h'⟩
 ·exact .inl h.2
 exact .inr ⟨b,o,h,h'⟩
theorem bO.one {w:World} {v:Value} {l:List bn}(h:bO w v l):v.oneCell'=true:=by
 obtain⟨a,c,rfl,_⟩:=h;rfl
theorem bO.nil(w:World):bO w (.slice none 0 0) []:=⟨none,0,rfl,bfx _,.inl ⟨rfl,rfl⟩⟩
theorem bY.ins {w:World} {base:Nat} {v:Value} {l:List bn}(h:bY w base v l):bO w v l:=by
 have hh:=h;rcases h.2 with⟨h1,h2⟩ | ⟨g,cap,cur,h1,_,hrow,hle,_⟩
 ·exact⟨none,0,by rw[h1,h2],by omega,.inl ⟨rfl,bg3 h2⟩⟩
 refine⟨_,_,h1,hle,.inr ⟨g,0,rfl,.inr ⟨cur,hrow⟩,λi x hx j u hu=>?_⟩⟩;unfold bY at hh;rw[h1]at hh;have hi:i<l.length:=(List.getElem?_eq_some_iff.1 hx).1;have hj:j<8:=tq hu;rw[show 0+i*8+j=i*8+j by omega,World.ownsRow.cellAt hh _ (by omega)]
 exact nu l i x j u hx hu
theorem yD(w:World)(v:Value)(l:List bn)(h:bO w v l)(hn:l.length<=1000000):
  Calls prog 36 #[v] w (λe w'=>∃v',e=.returned v'/\bY w' w.heap.size v' l/\Bw w w'):=by
 obtain⟨a,c,rfl,hc,h⟩:=h;rcases h with⟨rfl,rfl⟩ | ⟨b,o,rfl,_,h⟩
 ·refine(AnyE.slices_Clone_nil Tryz.NN _ _ w).mono ?_;rintro e w' ⟨rfl,rfl⟩;exact⟨_,rfl,bY.nil _ _,Br⟩
 obtain⟨i0,hi,hz0,hz1,hz2⟩:=info_parts lh;refine(AnyE.slices_Clone Tryz.NN i0 _ 8 96 hi hz0 hz1 hz2 rfl (by decide) sizeOf55 b o l.length c (bP l) w (df l) (by unfold maxLen;omega) (by omega) ?_ (mi l)).mono ?_
 ·intro j u hu;have:=zJ h j u hu
  rwa [addr_add]at this
 rintro e w' ⟨v',rfl,h1,_,hB⟩;exact⟨v',rfl,h1,hB⟩
def gW(w:World)(v:Value)(s:di):Prop:=∃pv l,v=.agg #[.int .i64 s.mark,pv]/\bO w pv l/\(∀x∈l,bR w x)/\s.panes=l.map bn.p
theorem gW.below {w w':World} {v:Value} {s:di}(h:gW w v s)(hB:Bw w w'):gW w' v s:=by
 obtain⟨pv,l,h1,h2,h3,h4⟩:=h;exact⟨pv,l,h1,h2.below hB,λx hx=>(h3 x hx).below hB,h4⟩
def fw(w:World)(v:Value)(o:List dB):Prop:=∃a c l,v=.slice a l.length c/\l.length<=c/\gH w a l/\(∀x∈l,dO w x)/\o=l.map bM.o
theorem fw.below {w w':World} {v:Value} {o:List dB}(h:fw w v o)(hB:Bw w w'):fw w' v o:=by
 obtain⟨a,c,l,h1,h2,h3,h4,h5⟩:=h;exact⟨a,c,l,h1,h2,h3.below hB,λx hx=>(h4 x hx).below hB,h5⟩
theorem fw.nil(w:World):fw w bS []:=⟨none,0,[],rfl,bfx _,.inl rfl,λ_ h=>by simp at h,rfl⟩
theorem Jl(w:World)(q:bz)(x:bn):
  dn ((w.alloc (.cells q.cells 23)).alloc (.cells x.cells 55)) w.heap.size q/\
   cz ((w.alloc (.cells q.cells 23)).alloc (.cells x.cells 55)) (w.heap.size+1) x/\
   Bw w ((w.alloc (.cells q.cells 23)).alloc (.cells x.cells 55)):=by
 have k1:=(Below.refl _ w).alloc (bfx _) (.cells q.cells 23);have k2:=(Below.refl _ (w.alloc (.cells q.cells 23))).alloc (bfx _) (.cells x.cells 55);have hs:(w.alloc (.cells q.cells 23)).heap.size=w.heap.size+1:=bq w _;refine⟨dn.below (bg5 w _) k2,?_,Tb k1 k2⟩;rw[<-hs];exact bg5 _ _
theorem Jm(w:World)(q:bz)(x:bg):
  dn ((w.alloc (.cells q.cells 23)).alloc (.cells x.cells 47)) w.heap.size q/\
   bZ ((w.alloc (.cells q.cells 23)).alloc (.cells x.cells 47)) (w.heap.size+1) x/\
   Bw w ((w.alloc (.cells q.cells 23)).alloc (.cells x.cells 47)):=by
 have k1:=(Below.refl _ w).alloc (bfx _) (.cells q.cells 23);have k2:=(Below.refl _ (w.alloc (.cells q.cells 23))).alloc (bfx _) (.cells x.cells 47);have hs:(w.alloc (.cells q.cells 23)).heap.size=w.heap.size+1:=bq w _;refine⟨dn.below (bg5 w _) k2,?_,Tb k1 k2⟩;rw[<-hs];exact bg5 _ _
end Go.Proofs.YtjeeghafachebaaGreat
