/-
  35.
-/
import Derived.Test.YtjeeghafachebaaGreatU33
set_option maxRecDepth 100000
set_option maxHeartbeats 8000000
namespace Go.Proofs.YtjeeghafachebaaGreat
open Go Go.RowKit Go.Proofs.Tryz
theorem jl(l m:List bn):bP (l++m)=bP l++bP m:=by simp[bP]
theorem mO(l:List bn)(i:Nat)(h:i<=l.length):bP (l.take i)=(bP l).take (i*8):=by
 have e:bP l=bP (l.take i)++bP (l.drop i):=by rw[<-jl,List.take_append_drop]
 have hl:(bP (l.take i)).length=i*8:=by rw[df,bga,Nat.min_eq_left h]
 rw[e,List.take_left' hl]
theorem qO(l:List bn)(i:Nat)(h:i<=l.length):bP (l.drop i)=(bP l).drop (i*8):=by
 have e:bP l=bP (l.take i)++bP (l.drop i):=by rw[<-jl,List.take_append_drop]
 have hl:(bP (l.take i)).length=i*8:=by rw[df,bga,Nat.min_eq_left h]
 rw[e,List.drop_left' hl]
theorem DW(w:World) {base g n c:Nat} {l:List bn}(hown:bY w base (.slice (some ⟨g,0,none⟩) n c) l)(hn:n=l.length) {y:bn} {q:Nat}(hu:∀j z,y.cells[j]? =some z->w.cell? ⟨q,j,none⟩=some z)(hroom:n+1<=c)(ty:TypeId):
  ∃w',(Builtin.append_ #[27,27] ty #[.slice (some ⟨g,0,none⟩) n c,.slice (some ⟨q,0,none⟩) 1 1]).run prog w=.ok (.slice (some ⟨g,0,none⟩) (n+1) c) w'/\
   bY w' base (.slice (some ⟨g,0,none⟩) (n+1) c) (l++[y])/\w.grownBy w' (some g):=by
 subst hn;obtain⟨i,hi,hz,hs,hby⟩:=info_parts lh;obtain⟨w',h1,h2,h3⟩:=run_append_fits (P:=prog) w base 27 ty 55 i 8 underlying27 hi hs g l.length c (bP l) hown ⟨q,0,none⟩ 1 1 y.cells.toList rfl
  (λj u hj=>by rw[addr_add,bgu];exact hu j u (by simpa using hj)) (λz hz=>Array.all_eq_true'.1 (fG y) z (by simpa using hz)) hroom
 refine⟨w',h1,?_,h3⟩;unfold bY;rw[wD,bft];exact h2
theorem FW {ops:Array Oper} {rest:List Oper} {o:Oper} {a:Act} {Q:Exit->Act->World->Prop} {w:World}(hgd:o.guard=none)(s x:Operand)
  (ho:o.op=.call { callee:=.builtin .append,args:=#[s,x],argTypes:=#[27,27] }) {base g n c:Nat} {l:List bn} (hs:a.eval s=.slice (some ⟨g,0,none⟩) n c)
  (hown:bY w base (.slice (some ⟨g,0,none⟩) n c) l) (hn:n=l.length) (y:bn) (q:Nat) (hx:a.eval x=.slice (some ⟨q,0,none⟩) 1 1) (hu:∀j z,y.cells[j]? =some z->w.cell? ⟨q,j,none⟩=some z) (hroom:n+1<=c)
  (h:∀w',bY w' base (.slice (some ⟨g,0,none⟩) (n+1) c) (l++[y])->w.grownBy w' (some g)->wpList prog ops Q rest (a.put o.dst (.slice (some ⟨g,0,none⟩) (n+1) c)) w'):wpList prog ops Q (o::rest) a w:=by
 refine wpList_plain hgd λK hK=>?_;obtain⟨w',hr,h2,h3⟩:=DW w hown hn hu hroom o.type;unfold Oper.wp execOp;simp only[ho,resolve,invoke,builtin,Sem.run_bind,Sem.run_pure,Result.andThen_ok,bgb,bgc,bge,hs,hx,hr];exact hK _ _ (h w' h2 h3)
theorem Dr(w:World)(ty:TypeId)(b o dLen dCap:Nat)(a:Addr)(sLen sCap k:Nat)(cs:List Value)(cur:Array Value)(hg:w.heap[b]? =some (.cells cur 55 (0,0)))
  (hk:k=Nat.min sLen dLen) (hn:cs.length=k*8) (hsrc:∀j v,cs[j]? =some v->w.cell? (a.add j)=some v) (h1:∀v∈cs,v.oneCell'=true) (hfit:o+cs.length<=cur.size):
  (Builtin.copy_ #[27,27] ty #[.slice (some ⟨b,o,none⟩) dLen dCap,.slice (some a) sLen sCap]).run prog w=.ok (goInt k) (w.setRow b (cur.toList.take o++cs++cur.toList.drop (o+cs.length)).toArray):=by
 have hl:=run_loadCells_list (P:=prog) w a cs hsrc;have hst:=run_storeCells_at prog b o 55 cs 0 cur w hg (by simpa using hfit) h1
 have hs:∀w,(sizeOf 55).run prog w=.ok 8 w:=sizeOf55;rw[hn]at hl;simp[Builtin.copy_,run_underlying underlying27,Builtin.lenOf,Builtin.firstCells,hs,<-hk,hl];simp only[Nat.add_zero]at hst;rw[hst];simp only[Result.andThen_ok,bgz]
theorem Jb {o:Oper} {a:Act} {w:World} {K:Act->World->Prop} {Q:Exit->Act->World->Prop}(d s:Operand)(ho:o.op=.call { callee:=.builtin .copy,args:=#[d,s],argTypes:=#[27,27] })
  (b off dLen dCap:Nat) (x:Addr) (sLen sCap k:Nat) (cs:List Value) (cur:Array Value) (hd:a.eval d=.slice (some ⟨b,off,none⟩) dLen dCap) (hs:a.eval s=.slice (some x) sLen sCap) (hg:w.heap[b]? =some (.cells cur 55 (0,0)))
  (hk:k=Nat.min sLen dLen) (hn:cs.length=k*8) (hsrc:∀j v,cs[j]? =some v->w.cell? (x.add j)=some v) (h1:∀v∈cs,v.oneCell'=true) (hfit:off+cs.length<=cur.size)
  (h:K (a.put o.dst (goInt k)) (w.setRow b (cur.toList.take off++cs++cur.toList.drop (off+cs.length)).toArray)):o.wp prog a w K Q:=by
 unfold Oper.wp execOp;simp only[ho,resolve,invoke,builtin,Sem.run_bind,Sem.run_pure,Result.andThen_ok,bgb,bgc,bge,hd,hs,Dr w o.type b off dLen dCap x sLen sCap k cs cur hg hk hn hsrc h1 hfit];exact h
theorem FU {ops:Array Oper} {rest:List Oper} {o:Oper} {a:Act} {w:World} {Q:Exit->Act->World->Prop}(hgd:o.guard=none)(d s:Operand)(ho:o.op=.call { callee:=.builtin .copy,args:=#[d,s],argTypes:=#[27,27] })
  (b off dLen dCap:Nat) (x:Addr) (sLen sCap k:Nat) (cs:List Value) (cur:Array Value) (hd:a.eval d=.slice (some ⟨b,off,none⟩) dLen dCap) (hs:a.eval s=.slice (some x) sLen sCap) (hg:w.heap[b]? =some (.cells cur 55 (0,0)))
  (hk:k=Nat.min sLen dLen) (hn:cs.length=k*8) (hsrc:∀j v,cs[j]? =some v->w.cell? (x.add j)=some v) (h1:∀v∈cs,v.oneCell'=true) (hfit:off+cs.length<=cur.size)
  (h:wpList prog ops Q rest (a.put o.dst (goInt k)) (w.setRow b (cur.toList.take off++cs++cur.toList.drop (off+cs.length)).toArray)):wpList prog ops Q (o::rest) a w:=
 wpList_plain hgd λ_ hK=>Jb d s ho b off dLen dCap x sLen sCap k cs cur hd hs hg hk hn hsrc h1 hfit (hK _ _ h)
theorem qh(w:World)(g o n c i:Nat)(h:i<=n)(hc:i<c):
  (Instr.slice 27 (.slice (some ⟨g,o,none⟩) n c) (some (.int .i64 (i:Int))) none none).run prog w=.ok (.slice (some ⟨g,o+i*8,none⟩) (n-i) (c-i)) w:=by
 have hz:∀w,(sizeOf 55).run prog w=.ok 8 w:=sizeOf55;have e:¬c=i:=by omega
 simp[Instr.slice,run_underlying underlying27,Instr.sliceBounds,run_sliceBound,hz,h,addr_add,e]
def Ql(g q:Nat)(y:bn)(w:World)(cur SK:Array Value)(k:Nat)(w':World):Prop:=
 cond (Nat.beq k 0) (w'.heap[g]? =some (.cells cur 55 (0,0))) (w'.heap[g]? =some (.cells SK 55 (0,0)))/\cz w' q y/\w.grownBy w' (some g)
theorem GJ(w:World)(base g c i q:Nat)(l:List bn)(y:bn)(hO:bY w base (.slice (some ⟨g,0,none⟩) l.length c) l)(hq:cz w q y)(hqg:q≠g)(hi:i<=l.length)(hc:l.length+1<=c)(hn:l.length<=1000000):
  Calls prog 101 #[.slice (some ⟨g,0,none⟩) l.length c,.int .i64 (i:Int),.slice (some ⟨q,0,none⟩) 1 1] w (λe w'=>e=.returned (.slice (some ⟨g,0,none⟩) (l.length+1) c)/\bY w' base (.slice (some ⟨g,0,none⟩) (l.length+1) c) (l.take i++[y]++l.drop i)/\w.grownBy w' (some g)):=by
 obtain⟨n,hN⟩:=Nm (l.length);obtain⟨P,hP⟩:=Nm (λe w'=>e=.returned (.slice (some ⟨g,0,none⟩) (n+1) c)/\bY w' base (.slice (some ⟨g,0,none⟩) (n+1) c) (l.take i++[y]++l.drop i)/\w.grownBy w' (some g):Ending->World->Prop);rw[<-hN]at hO hi hc hn ⊢;rw[<-hP];have Sl:Hid (∀w',bY w' base (.slice (some ⟨g,0,none⟩) (n+1) c) (l.take i++[y]++l.drop i)->w.grownBy w' (some g)->P (.returned (.slice (some ⟨g,0,none⟩) (n+1) c)) w'):=Lh (λw' h1 h2=>by rw[hP];exact⟨rfl,h1,h2⟩)
 have hsl0:∀w',(Instr.slice 27 (.slice (some ⟨g,0,none⟩) n c) (some (.int .i64 (i:Int))) none none).run prog w'=.ok (.slice (some ⟨g,i*8,none⟩) (n-i) (c-i)) w':=λw'=>by
  have h:=qh w' g 0 n c i hi (by omega)
  rwa [bgu]at h
 have HO:=Lh (bfy hO (bfy hN hq));clear hP hN hO hq;have hm1:((1:Int)==0)=false:=rfl;by_cases hin:i=n
 ·subst hin;have e1:((i:Int)==(i:Int))=true:=by simp
  have HU:Hid (∀j z,y.cells[j]? =some z->w.cell? ⟨q,j,none⟩=some z):=Lh (λj z hz=>HO.out.2.2.cell j hz);go_enter func101,ntmps101;go_upto_region 7 with(fail);refine bg4 ?_
  iterate 6 go_step
  refine FW rfl (.tmp 23) (.tmp 24) rfl rfl HO.out.1 HO.out.2.1 y q rfl HU.out hc ?_;intro w' k1 k2;have HZ:Hid (P (.returned (.slice (some ⟨g,0,none⟩) (i+1) c)) w'):=Lh (Sl.out w' (by rw[HO.out.2.1,bgs,List.drop_length,bg2,<-HO.out.2.1];exact k1) k2)
  clear k1 k2 hsl0;go_wp2_with(fail);exact HZ.out
 have hlt:i<n:=by omega
 have e1:((i:Int)==(n:Int))=false:=by simpa using λh:(i:Int)=(n:Int)=>hin (by omega)
 obtain⟨cur,SQ,hsz,htk,hcm,hbg⟩:∃cur:Array Value,w.heap[g]? =some (.cells cur 55 (0,0))/\cur.size=c*8/\cur.toList.take (n*8)=bP l/\c<=maxLen/\base<=g:=by
  have h:=HO.out.1;rcases h.2 with⟨h',_⟩ | ⟨g',cap',cur,h',hb,hg,_,hcm,hcs,htake⟩
  ·simp at h'
  simp only[Value.slice.injEq,bf5,Addr.mk.injEq,and_true]at h';obtain⟨rfl,_,rfl⟩:=h';rw[<-HO.out.2.1]at htake;exact⟨cur,hg,hcs,htake,hcm,hb⟩
 have hL:(bP l).length=n*8:=by rw[df,HO.out.2.1]
 obtain⟨cs,hcs⟩:=Nm ((bP l).drop (i*8));have hcl:cs.length=(n-i)*8:=by rw[hcs,bgx,hL];omega
 obtain⟨SK,hc1⟩:=Nm ((cur.toList.take ((i+1)*8)++cs++cur.toList.drop ((i+1)*8+cs.length)).toArray);have hs1:SK.size=c*8:=by
  rw[hc1];simp only[List.size_toArray,bft,bga,bgx,bgq];omega
 have HC:=Lh (bfy SQ (bfy hsz (bfy htk (bfy hcm (bfy hbg (bfy hcs (bfy hcl (bfy hc1 hs1))))))));have hov:∀lb cb,(callFunc 102 #[.slice (some ⟨q,0,none⟩) 1 1,.slice (some ⟨g,(i+1)*8,none⟩) lb cb]).run prog w=.ok (.value (.bool false)) w:=λlb cb=>by
  rw[run_callFunc_extern func102 (by kernel_rfl) (by kernel_rfl) (by kernel_rfl) (e:=Extern.SlicesOverlaps.overlaps #[27,27] #[4]) (by kernel_rfl),
   Lib.run_overlaps_apart w 27 4 55 underlying27 8 sizeOf55 ⟨q,0,none⟩ ⟨g,(i+1)*8,none⟩ 1 1 lb cb hqg 55 55 8 cur.size
    (by have h:=HO.out.2.2;unfold cz at h;simp[World.shape?,h,bn.cells]) (by simp[World.shape?,SQ]) (by omega) (HO.out.2.2.qi 0) (HO.out.2.2.qi 8)]
  rfl
 have XF:∀w',(Instr.slice 27 (.slice (some ⟨g,0,none⟩) n c) none (some (.int .i64 ((n:Int)+1))) none).run prog w'=.ok (.slice (some ⟨g,0,none⟩) (n+1) c) w':=λw'=>by
  have h:=mV w' (some ⟨g,0,none⟩) n c (n+1) (by omega)
  rwa [show((n+1:Nat):Int)=(n:Int)+1 by omega]at h
 have Yv:∀w',(Instr.slice 27 (.slice (some ⟨g,0,none⟩) (n+1) c) (some (.int .i64 ((i:Int)+1))) none none).run prog w'=.ok (.slice (some ⟨g,(i+1)*8,none⟩) (n-i) (c-(i+1))) w':=λw'=>by
  have h:=qh w' g 0 (n+1) c (i+1) (by omega) (by omega)
  rwa [show((i+1:Nat):Int)=(i:Int)+1 by omega,bgu,show n+1-(i+1)=n-i by omega]at h
 have Yu:∀w',(Instr.slice 27 (.slice (some ⟨g,0,none⟩) (n+1) c) (some (.int .i64 (i:Int))) none none).run prog w'=.ok (.slice (some ⟨g,i*8,none⟩) (n+1-i) (c-i)) w':=λw'=>by
  have h:=qh w' g 0 (n+1) c i (by omega) (by omega)
  rwa [bgu]at h
 have hgt:¬((c:Int)<(n:Int)+1):=by omega
 have HS:=Lh (bfy Yv Yu);have SB:Hid (Ql g q y w cur SK 0 w.drew):=Lh ⟨SQ,HO.out.2.2,⟨rfl,rfl,rfl,bfx _,λ_ _ _=>rfl⟩⟩;have Vg:Hid (i<n/\n+1<=c/\n<=1000000):=Lh ⟨hlt,hc,hn⟩;clear SQ hsz htk hcm hbg hcs hcl hc1 hs1 hL hin;go_enter func101,ntmps101;go_wp2_with(simp only[hov]);refine bD (λi=>([]:List Nat).contains i) (by kernel_rfl) (NoF [none,none,none,some 0]) [8] (V4 ((Value.slice (some ⟨g,0,none⟩) (n+1) c)::(Value.int .i64 (i:Int))::(Value.int .i64 (1:Int))::(Value.int .i64 ((i:Int)+1))::(Value.slice (some ⟨g,(i+1)*8,none⟩) (n-i) (c-(i+1)))::(Value.slice (some ⟨g,0,none⟩) (n+1) c)::(Value.int .i64 (i:Int))::(Value.slice (some ⟨g,i*8,none⟩) (n+1-i) (c-i))::goInt ((n-i:Nat):Int)::([]:List Value)) 99 (λ_ _ _=>True) 98 (λ_ _ _=>True) 97 (λ_ _ _=>True) 96 (λ_ _ _=>True)) (Ql g q y w cur SK) (λw w'=>Bw w w') (qm _ (λ_ _ _ _ _ h=>h) (λ_ _ _ _ _ h=>h) (λ_ _ _ _ _ h=>h) (λ_ _ _ _ _ h=>h)) (by kernel_rfl) (by kernel_rfl) (by kernel_rfl) SB.out (λ_=>⟨rfl,rfl,rfl,rfl,rfl,rfl,rfl,rfl,rfl,trivial⟩) (λ_ h=>by simp at h) ?_ ?_
 ·refine ⟨?_,?_,?_,?_,?_,?_,?_,?_,?_,trivial⟩<;>(first|(intro _ _ a w' hG Si Sj K hK;guard_hyp w':World)|intro _ a w' hG Si Sj K hK)<;>replace Si:=Lh Si<;>replace Sj:=Lh Sj
  have q0:=FoA Si 0 (.slice (some ⟨g,0,none⟩) (n+1) c);rotate_left;have q1:=FiA Si 1 i;rotate_left;have q7:=FiA Si 7 1;rotate_left;have E5:=Pi a 70 i Sj.out.1;have AX:=Pi a 71 1 Sj.out.2.1;have hlt:=Vg.out;rotate_left;have Uq:=Ep a 69 (.slice (some ⟨g,0,none⟩) (n+1) c) Sj.out.1;have AY:=Ep a 72 (.int .i64 ((i:Int)+1)) Sj.out.2.1;have hsl:=HS.out.1;rotate_left;have q0:=FoA Si 0 (.slice (some ⟨g,0,none⟩) (n+1) c);rotate_left;have q1:=FiA Si 1 i;rotate_left;have AZ:=Ep a 74 (.slice (some ⟨g,0,none⟩) (n+1) c) Sj.out.1;have A7:=Pi a 75 i Sj.out.2.1;have hsl:=HS.out.2;rotate_left
  ·obtain ⟨p0,p1,_⟩:=Sj.out;have iG:=(show a.eval (.tmp 73)=.slice (some ⟨g,(i+1)*8,none⟩) (n-i) (c-(i+1))from p0);have iH:=(show a.eval (.tmp 76)=.slice (some ⟨g,i*8,none⟩) (n+1-i) (c-i)from p1);clear p0 p1;obtain⟨SQ,hq,hgr⟩:=(show(w'.heap[g]? =some (.cells cur 55 (0,0))/\cz w' q y/\w.grownBy w' (some g))from hG);obtain⟨_,hsz,htk,_,_,hcs,hcl,hc1,_⟩:=HC.out;have hlt:=Vg.out;refine Jb (.tmp 73) (.tmp 76) rfl g ((i+1)*8) (n-i) (c-(i+1)) ⟨g,i*8,none⟩ (n+1-i) (c-i) (n-i) cs cur iG iH SQ (Nat.min_eq_right (by omega)).symm hcl (λj v hj=>?_) (λv hv=>?_) (by omega) ?_
   ·rw[addr_add,cell_of_row w' g _ cur _ _ SQ];rw[hcs,List.getElem?_drop,<-htk,List.getElem?_take]at hj
    split at hj
    ·simpa using hj
    cases hj
   ·rw[hcs]at hv;exact mi l v (List.mem_of_mem_drop hv)
   rw[<-hc1];have hg2:=bC w' g SK;exact hK _ _ rfl ⟨setRow_heap w' g _ _ _ _ SQ,hq.grown hg2 (by simp;exact hqg),⟨hg2.os.trans hgr.os,hg2.tape.trans hgr.tape,hg2.output.trans hgr.output,bgn hgr.size hg2.size,λj hj hne=>(hg2.block j (Nat.lt_of_lt_of_le hj hgr.size) hne).trans (hgr.block j hj hne)⟩⟩ (jq (.inr λ_ h=>h) (.inr λ_ h=>h) (.inr λ_ h=>h) (.inr λ_ h=>h))
  all_goals(go_step;exact hK _ _ rfl hG Br)
 intro vs w2 hG hlen hV
 match vs,hlen,hV with
 | [v0,v1,v2,v3,v4,v5,v6,v7,v8],_,hV=>
  clear hV;simp only[dG,bf7,bf1];simp only[Act.put,bfw,bfu,bfv];have H2:Hid (w2.heap[g]? =some (.cells SK 55 (0,0))/\cz w2 q y/\w.grownBy w2 (some g)):=Lh hG;clear hG Yv XF hov;go_upto_region 16 with(fail);refine bg4 ?_
  iterate 12 go_step
  refine FU rfl (.tmp 80) (.tmp 81) rfl g (i*8) (n+1-i) (c-i) ⟨q,0,none⟩ 1 1 1 y.cells.toList SK rfl rfl H2.out.1 (Nat.min_eq_left (by have:=Vg.out;omega)).symm rfl (λj v hj=>by rw[addr_add,bgu];exact H2.out.2.1.cell j (by simpa using hj)) (λv hv=>Array.all_eq_true'.1 (fG y) v (by simpa using hv)) (by have h3:y.cells.toList.length=8:=rfl;have h:=HC.out.2.2.2.2.2.2.2.2;omega) ?_
  obtain⟨wz,hwz⟩:=Nm (w2.setRow g (SK.toList.take (i*8)++y.cells.toList++SK.toList.drop (i*8+y.cells.toList.length)).toArray);have HZ:Hid (P (.returned (.slice (some ⟨g,0,none⟩) (n+1) c)) wz):=by
   obtain⟨SQ,hsz,htk,hcm,hbg,hcs,hcl,hc1,hs1⟩:=HC.out;have hlt:=Vg.out;have hN:=HO.out.2.1;have hL:(bP l).length=n*8:=by rw[df,hN]
   have h3:y.cells.toList.length=8:=rfl;have hg2:=bC w2 g (SK.toList.take (i*8)++y.cells.toList++SK.toList.drop (i*8+y.cells.toList.length)).toArray;rw[<-hwz]at hg2;have hgr:=H2.out.2.2;refine Lh (Sl.out wz ?_ ⟨hg2.os.trans hgr.os,hg2.tape.trans hgr.tape,hg2.output.trans hgr.output,bgn hgr.size hg2.size,λj hj hne=>(hg2.block j (Nat.lt_of_lt_of_le hj hgr.size) hne).trans (hgr.block j hj hne)⟩);have hlen:(l.take i++[y]++l.drop i).length=n+1:=by simp;omega
   unfold bY;rw[hlen];refine⟨by rw[df,hlen],.inr ⟨g,c,_,rfl,hbg,by rw[hwz];exact setRow_heap w2 g _ _ _ _ H2.out.1,hlt.2.1,hcm,?_,?_⟩⟩
   ·simp only[List.size_toArray,bft,bga,bgx,bgq];have h4:y.cells.size=8:=rfl;omega
   have e1:bP (l.take i++[y]++l.drop i)=(bP l).take (i*8)++y.cells.toList++cs:=by
    rw[jl,jl,mO l i (by omega),qO l i (by omega),hcs]
    simp[bP]
   have e2:SK.toList.take (i*8)=(bP l).take (i*8):=by
    rw[hc1,bgz,List.take_append_of_le_length (by rw[bga,bgq];omega),List.take_take,<-htk,List.take_take]
    congr 1
    omega
   have e3:SK.toList.drop (i*8+y.cells.toList.length)=cs++cur.toList.drop ((i+1)*8+cs.length):=by
    rw[hc1,bgz,h3];exact List.drop_left' (by rw[bga,bgq];omega)
   rw[e1,e2,e3];exact Hw _ (by rw[bga,hL,h3,hcl];omega)
  rw[<-hwz];clear hwz Yu hsl0;go_wp2_with(fail);exact HZ.out
theorem rP(m:Nat):(Builtin.zeroCells (Value.agg #[.string ⟨#[]⟩,.int .i64 0,.int .i64 0,.int .i64 0,.int .i64 0,.slice none 0 0,.complex .f64 0 0,.int .i64 0]).cells m).toList=bP (List.replicate m cO):=by
 have hz:cO.cells=#[.string ⟨#[]⟩,.int .i64 0,.int .i64 0,.int .i64 0,.int .i64 0,.slice none 0 0,.complex .f64 0 0,.int .i64 0]:=rfl;apply List.ext_getElem?;intro j;show(Builtin.zeroCells #[.string ⟨#[]⟩,.int .i64 0,.int .i64 0,.int .i64 0,.int .i64 0,.slice none 0 0,.complex .f64 0 0,.int .i64 0] m).toList[j]? =_;rw[<-hz];have hs:cO.cells.size=8:=rfl;by_cases hj:j<m*8
 ·have h8:j % 8<8:=Nat.mod_lt _ (by decide)
  have hx:(List.replicate m cO)[j / 8]? =some cO:=by rw[List.getElem?_replicate,if_pos (by omega)]
  obtain⟨v,hv⟩:∃v,cO.cells[j % 8]? =some v:=⟨_,bgm (by rw[hs];exact h8)⟩
  have h1:=nu _ (j / 8) _ (j % 8) v hx hv;rw[show j / 8*8+j % 8=j by omega]at h1
  rw[h1,Array.getElem?_toList];unfold Builtin.zeroCells;rw[hs,Array.getElem?_map,bgm (by simpa using hj)]
  simp only[Array.getElem_range,Option.map_some];rw[getElem!_def,hv]
 have h1:(bP (List.replicate m cO))[j]? =none:=by
  rw[List.getElem?_eq_none_iff,df,List.length_replicate];omega
 rw[h1,List.getElem?_eq_none_iff,bgq,size_zeroCells,hs];omega
theorem wY(w:World) {g n c m:Nat} {olds:List bn}(ty:TypeId)(hlo:olds.length=n)(hc:∀j u,(bP olds)[j]? =some u->w.cell? ⟨g,j,none⟩=some u)(hg:c<n+m)(hm:0<m)(hsz:n+m<=1000000):
  ∃cap w',(Builtin.append_ #[27,3] ty #[.slice (some ⟨g,0,none⟩) n c,.int .i64 (m:Int)]).run prog w=.ok (.slice (some ⟨w.heap.size,0,none⟩) (n+m) cap) w'/\bY w' w.heap.size (.slice (some ⟨w.heap.size,0,none⟩) (n+m) cap) (olds++List.replicate m cO)/\w.grownBy w' none:=by
 obtain⟨i,hi,hz,hs,hby⟩:=info_parts lh;have hn:¬(n+m<=c):=by omega
 have h63':¬(9223372036854775807<((n:Int)+(m:Int))):=by omega
 have hfit:Builtin.nextslicecap (n+m) c*i.bytes<=281474976710656:=growslice_fits hg (by rw[hby];omega)
 have h48':¬(281474976710656<Builtin.nextslicecap (n+m) c*i.bytes):=by omega
 have hwr:IntKind.i64.wrap (m:Int)=(m:Int):=by
  simp[IntKind.wrap,IntKind.bits,IntKind.signed];omega
 have hm0:¬((m:Int)<0):=by omega
 have hmb:¬((281474976710656:Int)<(m:Int)*(i.bytes:Int)):=by rw[hby];omega
 have hms:¬(m*i.size=0):=by rw[hs];omega
 have hfo:=run_firstCells_some (P:=prog) w.drew i.size n ⟨g,0,none⟩ n c (bP olds) (by rw[df,hlo,hs]) (by simpa[addr_add]using hc)
 have hr:(Builtin.append_ #[27,3] ty #[.slice (some ⟨g,0,none⟩) n c,.int .i64 (m:Int)]).run prog w=.ok (.slice (some ⟨w.heap.size,0,none⟩) (n+m) (grownCap w (n+m) c 55))
    (w.drew.alloc (.cells ((bP olds).toArray++Builtin.zeroCells (Value.agg #[.string ⟨#[]⟩,.int .i64 0,.int .i64 0,.int .i64 0,.int .i64 0,.slice none 0 0,.complex .f64 0 0,.int .i64 0]).cells m++Builtin.zeroCells (Value.agg #[.string ⟨#[]⟩,.int .i64 0,.int .i64 0,.int .i64 0,.int .i64 0,.slice none 0 0,.complex .f64 0 0,.int .i64 0]).cells (grownCap w (n+m) c 55-(n+m))) 55)):=by
  simp[Builtin.append_,run_underlying underlying27,run_underlying underlying3,sizeOf,typeInfo,zeroValue,hi,hz,Builtin.lenOf,asInt,asIntOf,hwr,hm0,hmb,hms,hn,h63',h48',Question.forced,hfo,newRow,grownCap]
 have hge:=grownCap_ge w (n+m) c 55;have hcm:grownCap w (n+m) c 55<=maxLen:=grownCap_le_maxLen w (n+m) c 55 (by unfold maxLen;omega)
 have hlen:(olds++List.replicate m cO).length=n+m:=by rw[bft,List.length_replicate,hlo]
 refine⟨_,_,hr,?_,⟨rfl,rfl,rfl,by simp,λk hk _=>heap_alloc_old w.drew _ hk⟩⟩
 unfold bY;rw[hlen];refine⟨by rw[df,hlen],.inr ⟨w.heap.size,_,_,rfl,bfx _,bg5 w.drew _,hge,hcm,?_,?_⟩⟩
 ·simp only[Array.size_append,List.size_toArray,size_zeroCells,df,hlo];show n*8+m*8+(grownCap w (n+m) c 55-(n+m))*8=_;omega
 simp only[Array.toList_append,rP,bgz];rw[<-bgz,<-jl];exact List.take_left' (by rw[df,hlen])
theorem bY.take {w:World} {base g n c i:Nat} {l:List bn}(h:bY w base (.slice (some ⟨g,0,none⟩) n c) l)(hn:n=l.length)(hi:i<=n):bY w base (.slice (some ⟨g,0,none⟩) i c) (l.take i):=by
 subst hn;rcases h.2 with⟨h',_⟩ | ⟨g',cap',cur,h',hb,hg,hnc,hcm,hcs,htake⟩
 ·simp at h'
 simp only[Value.slice.injEq,bf5,Addr.mk.injEq,and_true,true_and]at h';obtain⟨rfl,rfl⟩:=h';have hlen:(l.take i).length=i:=by rw[bga];omega
 unfold bY;rw[hlen];refine⟨by rw[df,hlen],.inr ⟨g,c,cur,rfl,hb,hg,by omega,hcm,hcs,?_⟩⟩
 rw[mO l i hi,<-htake,List.take_take]
 congr 1
 omega
theorem bY.row {w:World} {base g n c:Nat} {l:List bn}(h:bY w base (.slice (some ⟨g,0,none⟩) n c) l)(hn:n=l.length):∃cur:Array Value,w.heap[g]? =some (.cells cur 55 (0,0))/\cur.size=c*8/\cur.toList.take (n*8)=bP l/\c<=maxLen/\base<=g/\n<=c:=by
 subst hn;rcases h.2 with⟨h',_⟩ | ⟨g',cap',cur,h',hb,hg,hnc,hcm,hcs,htake⟩
 ·simp at h'
 simp only[Value.slice.injEq,bf5,Addr.mk.injEq,and_true,true_and]at h';obtain⟨rfl,rfl⟩:=h';exact⟨cur,hg,hcs,htake,hcm,hb,hnc⟩
theorem bY.xM {w:World} {base g n c i:Nat} {l:List bn}(h:bY w base (.slice (some ⟨g,0,none⟩) n c) l)(hn:n=l.length)(hi:i<=n):∀j v,(bP (l.drop i))[j]? =some v->w.cell? ((⟨g,i*8,none⟩:Addr).add j)=some v:=by
 intro j v hj;have hh:=h;subst hn;unfold bY at hh;rw[qO l i hi,List.getElem?_drop]at hj;have hlt:=(List.getElem?_eq_some_iff.1 hj).1;rw[df]at hlt;rw[addr_add,World.ownsRow.cellAt hh _ (by omega)]
 exact hj
theorem K5 {L M:List bn} {i k n:Nat} {cur:Array Value}(hn:n=L.length)(hk:k=M.length)(hik:i+k<=n)(ht:cur.toList.take (n*8)=bP L):
  (cur.toList.take (i*8)++bP M++cur.toList.drop (i*8+(bP M).length)).take (n*8)=bP (L.take i++M++L.drop (i+k)):=by
 have hM:(bP M).length=k*8:=by rw[df,hk]
 have e1:cur.toList.take (i*8)=(bP L).take (i*8):=by
  rw[<-ht,List.take_take]
  congr 1
  omega
 have e2:(cur.toList.drop (i*8+k*8)).take (n*8-(i*8+k*8))=(bP L).drop ((i+k)*8):=by
  rw[<-ht,List.drop_take]
  congr 1
  ·omega
  congr 1
  omega
 have hl1:((bP L).take (i*8)++bP M).length=i*8+k*8:=by
  rw[bft,bga,hM,df,<-hn];omega
 rw[hM,e1,List.take_append,List.take_of_length_le (by omega),hl1,e2,jl,jl,mO L i (by omega),qO L (i+k) (by omega)]
theorem Cy(w:World)(ty:TypeId) {base g n c i k:Nat} {L M:List bn}(hO:bY w base (.slice (some ⟨g,0,none⟩) n c) L)(hn:n=L.length)(hk:k=M.length)(hik:i+k<=n)(dLen dCap:Nat)(x:Addr)(sLen sCap:Nat)(hmin:k=Nat.min sLen dLen)
  (hsrc:∀j v,(bP M)[j]? =some v->w.cell? (x.add j)=some v):
  ∃w',(Builtin.copy_ #[27,27] ty #[.slice (some ⟨g,i*8,none⟩) dLen dCap,.slice (some x) sLen sCap]).run prog w=.ok (goInt k) w'/\bY w' base (.slice (some ⟨g,0,none⟩) n c) (L.take i++M++L.drop (i+k))/\w.grownBy w' (some g):=by
 obtain⟨cur,hg,hcs,ht,hcm,hb,hnc⟩:=hO.row hn;have hM:(bP M).length=k*8:=by rw[df,hk]
 refine⟨_,Dr w ty g (i*8) dLen dCap x sLen sCap k (bP M) cur hg hmin hM hsrc (mi M) (by omega),?_,bC _ _ _⟩
 have hlen:(L.take i++M++L.drop (i+k)).length=n:=by
  rw[bft,bft,bga,bgx];omega
 unfold bY;rw[hlen];refine⟨by rw[df,hlen],.inr ⟨g,c,_,rfl,hb,setRow_heap w g _ _ _ _ hg,hnc,hcm,?_,?_⟩⟩
 ·simp only[List.size_toArray,bft,bga,bgx,bgq,hM];omega
 exact K5 hn hk hik ht
theorem rG {o:Oper} {a:Act} {w:World} {K:Act->World->Prop} {Q:Exit->Act->World->Prop}(d s:Operand)(ho:o.op=.call { callee:=.builtin .copy,args:=#[d,s],argTypes:=#[27,27] })
  {base g n c i k:Nat} {L M:List bn} (hO:bY w base (.slice (some ⟨g,0,none⟩) n c) L) (hn:n=L.length) (hk:k=M.length) (hik:i+k<=n) (dLen dCap:Nat) (x:Addr) (sLen sCap:Nat) (hmin:k=Nat.min sLen dLen)
  (hsrc:∀j v,(bP M)[j]? =some v->w.cell? (x.add j)=some v) (hd:a.eval d=.slice (some ⟨g,i*8,none⟩) dLen dCap) (hs:a.eval s=.slice (some x) sLen sCap)
  (h:∀w',bY w' base (.slice (some ⟨g,0,none⟩) n c) (L.take i++M++L.drop (i+k))->w.grownBy w' (some g)->K (a.put o.dst (goInt k)) w'):o.wp prog a w K Q:=by
 obtain⟨w',hr,h1,h2⟩:=Cy w o.type hO hn hk hik dLen dCap x sLen sCap hmin hsrc;unfold Oper.wp execOp;simp only[ho,resolve,invoke,builtin,Sem.run_bind,Sem.run_pure,Result.andThen_ok,bgb,bgc,bge,hd,hs,hr];exact h w' h1 h2
theorem qF {ops:Array Oper} {rest:List Oper} {o:Oper} {a:Act} {w:World} {Q:Exit->Act->World->Prop}(hgd:o.guard=none)(d s:Operand)(ho:o.op=.call { callee:=.builtin .copy,args:=#[d,s],argTypes:=#[27,27] })
  {base g n c i k:Nat} {L M:List bn} (hO:bY w base (.slice (some ⟨g,0,none⟩) n c) L) (hn:n=L.length) (hk:k=M.length) (hik:i+k<=n) (dLen dCap:Nat) (x:Addr) (sLen sCap:Nat) (hmin:k=Nat.min sLen dLen)
  (hsrc:∀j v,(bP M)[j]? =some v->w.cell? (x.add j)=some v) (hd:a.eval d=.slice (some ⟨g,i*8,none⟩) dLen dCap) (hs:a.eval s=.slice (some x) sLen sCap)
  (h:∀w',bY w' base (.slice (some ⟨g,0,none⟩) n c) (L.take i++M++L.drop (i+k))->w.grownBy w' (some g)->wpList prog ops Q rest (a.put o.dst (goInt k)) w'):wpList prog ops Q (o::rest) a w:=
 wpList_plain hgd λ_ hK=>rG d s ho hO hn hk hik dLen dCap x sLen sCap hmin hsrc hd hs (λw' h1 h2=>hK _ _ (h w' h1 h2))
theorem jF(w:World)(g n c i:Nat)(h:i<=n):
  (Instr.slice 27 (.slice (some ⟨g,0,none⟩) n c) (some (.int .i64 (i:Int))) none none).run prog w=.ok (.slice (some ⟨g,(if c=i then 0 else i*8),none⟩) (n-i) (c-i)) w:=by
 have hz:∀w,(sizeOf 55).run prog w=.ok 8 w:=sizeOf55;by_cases e:c=i
 ·subst e;simp[Instr.slice,run_underlying underlying27,Instr.sliceBounds,run_sliceBound,hz,h]
 simp[Instr.slice,run_underlying underlying27,Instr.sliceBounds,run_sliceBound,hz,h,addr_add,e]
theorem BG(w:World)(ty:TypeId) {base g n c i:Nat} {L:List bn}(hO:bY w base (.slice (some ⟨g,0,none⟩) n c) L)(hn:n=L.length)(hi:i<=n):
  ∃w',(Builtin.clear_ #[27] ty #[.slice (some ⟨g,(if c=i then 0 else i*8),none⟩) (n-i) (c-i)]).run prog w=.ok (.tuple #[]) w'/\bY w' base (.slice (some ⟨g,0,none⟩) i c) (L.take i)/\w.grownBy w' (some g):=by
 obtain⟨cur,hg,hcs,ht,hcm,hb,hnc⟩:=hO.row hn;by_cases e:n-i=0
 ·rw[e];refine⟨w,by simp[Builtin.clear_,run_underlying underlying27],hO.take hn hi,⟨rfl,rfl,rfl,bfx _,λ_ _ _=>rfl⟩⟩
 obtain⟨m,hm⟩:∃m,n - i=m+1:=⟨n - i - 1,by omega⟩
 have ec:¬c=i:=by omega
 rw[if_neg ec,hm];obtain⟨inf,hi1,hz,hs,hby⟩:=info_parts lh;have hst:=run_storeCells_at prog g (i*8) 55 (bP (List.replicate (m+1) cO)) 0 cur w hg (by rw[df,List.length_replicate];omega) (mi _)
 have hrun:(Builtin.clear_ #[27] ty #[.slice (some ⟨g,i*8,none⟩) (m+1) (c-i)]).run prog w=.ok (.tuple #[]) (w.setRow g (cur.toList.take (i*8)++bP (List.replicate (m+1) cO)++cur.toList.drop (i*8+(bP (List.replicate (m+1) cO)).length)).toArray):=by
  simp only[Nat.add_zero]at hst;simp[Builtin.clear_,zeroValue,typeInfo,run_underlying underlying27,hi1,hz,rP,hst]
 refine⟨_,hrun,?_,bC _ _ _⟩;have hlen:(L.take i).length=i:=by rw[bga];omega
 unfold bY;rw[hlen];refine⟨by rw[df,hlen],.inr ⟨g,c,_,rfl,hb,setRow_heap w g _ _ _ _ hg,by omega,hcm,?_,?_⟩⟩
 ·simp only[List.size_toArray,bft,bga,bgx,bgq,df,List.length_replicate];omega
 show List.take (i*8) (cur.toList.take (i*8)++_++_)=_;rw[bgz,List.take_append_of_le_length (by rw[bga,bgq];omega),List.take_take,Nat.min_self,mO L i (by omega),<-ht,List.take_take,Nat.min_eq_left (show i*8<=n*8 by omega)]
theorem pW {ops:Array Oper} {rest:List Oper} {o:Oper} {a:Act} {w:World} {Q:Exit->Act->World->Prop}(hgd:o.guard=none)(s:Operand)(ho:o.op=.call { callee:=.builtin .clear,args:=#[s],argTypes:=#[27] })
  {base g n c i:Nat} {L:List bn} (hO:bY w base (.slice (some ⟨g,0,none⟩) n c) L) (hn:n=L.length) (hi:i<=n) (hs:a.eval s=.slice (some ⟨g,(if c=i then 0 else i*8),none⟩) (n-i) (c-i))
  (h:∀w',bY w' base (.slice (some ⟨g,0,none⟩) i c) (L.take i)->w.grownBy w' (some g)->wpList prog ops Q rest (a.put o.dst (.tuple #[])) w'):wpList prog ops Q (o::rest) a w:=by
 refine wpList_plain hgd λK hK=>?_;obtain⟨w',hr,h1,h2⟩:=BG w o.type hO hn hi;unfold Oper.wp execOp;simp only[ho,resolve,invoke,builtin,Sem.run_bind,Sem.run_pure,Result.andThen_ok,bgb,bgc,bge,hs,hr];exact hK _ _ (h w' h1 h2)
theorem CK {ops:Array Oper} {rest:List Oper} {o:Oper} {a:Act} {w:World} {Q:Exit->Act->World->Prop}(hgd:o.guard=none)(s x:Operand)(ho:o.op=.call { callee:=.builtin .append,args:=#[s,x],argTypes:=#[27,3] })
  {base g n c m:Nat} {L:List bn} (hO:bY w base (.slice (some ⟨g,0,none⟩) n c) L) (hn:n=L.length) (hg:c<n+m) (hm:0<m) (hsz:n+m<=1000000) (hs:a.eval s=.slice (some ⟨g,0,none⟩) n c) (M:Int) (hx:a.eval x=.int .i64 M) (hM:M=(m:Int))
  (h:∀cap w',bY w' w.heap.size (.slice (some ⟨w.heap.size,0,none⟩) (n+m) cap) (L++List.replicate m cO)->w.grownBy w' none->wpList prog ops Q rest (a.put o.dst (.slice (some ⟨w.heap.size,0,none⟩) (n+m) cap)) w'):wpList prog ops Q (o::rest) a w:=by
 subst hM;refine wpList_plain hgd λK hK=>?_;obtain⟨cap,w',hr,h1,h2⟩:=wY w (c:=c) (m:=m) o.type hn.symm (λj u hj=>by have:=hO.xM hn (bgi n) j u (by simpa using hj);simpa[addr_add]using this) hg hm hsz
 unfold Oper.wp execOp;simp only[ho,resolve,invoke,builtin,Sem.run_bind,Sem.run_pure,Result.andThen_ok,bgb,bgc,bge,hs,hx,hr];exact hK _ _ (h cap w' h1 h2)
def mD(w:World)(base:Nat)(v:Value)(L:List bn)(e:Ending)(w':World):Prop:=∃v',e=.returned v'/\bY w' base v' L/\w.grownBy w' v.ownBlock/\(v'.ownBlock=v.ownBlock∨v'.ownBlock=some w.heap.size)
theorem BD(w:World)(ty:TypeId) {base g n c i:Nat} {L:List bn}(hO:bY w base (.slice (some ⟨g,0,none⟩) n c) L)(hn:n=L.length)(hi:i+1<=n) {y:bn} {q:Nat}(hu:∀j z,y.cells[j]? =some z->w.cell? ⟨q,j,none⟩=some z):
  ∃w',(Builtin.append_ #[27,27] ty #[.slice (some ⟨g,0,none⟩) i c,.slice (some ⟨q,0,none⟩) 1 1]).run prog w=.ok (.slice (some ⟨g,0,none⟩) (i+1) c) w'/\bY w' base (.slice (some ⟨g,0,none⟩) n c) (L.take i++[y]++L.drop (i+1))/\w.grownBy w' (some g):=by
 obtain⟨cur,hg,hcs,ht,hcm,hb,hnc⟩:=hO.row hn;obtain⟨inf,hi1,hz,hs,hby⟩:=info_parts lh;have h8:y.cells.toList.length=8:=rfl;have hr:=run_append_room (P:=prog) w 27 ty 55 inf underlying27 hi1 g i c cur hg ⟨q,0,none⟩ 1 1 y.cells.toList (by rw[h8,hs]) (λj u hj=>by rw[addr_add,bgu];exact hu j u (by simpa using hj)) (λz hz=>Array.all_eq_true'.1 (fG y) z (by simpa using hz)) (by omega) (by rw[h8,hs];omega)
 rw[hs]at hr;refine⟨_,hr,?_,bC _ _ _⟩;have hM:bP [y]=y.cells.toList:=by simp[bP]
 have hlen:(L.take i++[y]++L.drop (i+1)).length=n:=by
  rw[bft,bft,bga,bgx,bg0];omega
 have hm:=K5 (M:=[y]) hn rfl (i:=i) (k:=1) hi ht;rw[hM]at hm;unfold bY;rw[hlen];refine⟨by rw[df,hlen],.inr ⟨g,c,_,rfl,hb,setRow_heap w g _ _ _ _ hg,hnc,hcm,?_,hm⟩⟩
 simp only[List.size_toArray,bft,bga,bgx,bgq,h8];omega
theorem xC {ops:Array Oper} {rest:List Oper} {o:Oper} {a:Act} {w:World} {Q:Exit->Act->World->Prop}(hgd:o.guard=none)(s x:Operand)(ho:o.op=.call { callee:=.builtin .append,args:=#[s,x],argTypes:=#[27,27] })
  {base g n c i:Nat} {L:List bn} (hO:bY w base (.slice (some ⟨g,0,none⟩) n c) L) (hn:n=L.length) (hi:i+1<=n) {y:bn} {q:Nat} (hu:∀j z,y.cells[j]? =some z->w.cell? ⟨q,j,none⟩=some z) (hs:a.eval s=.slice (some ⟨g,0,none⟩) i c) (hx:a.eval x=.slice (some ⟨q,0,none⟩) 1 1)
  (h:∀w',bY w' base (.slice (some ⟨g,0,none⟩) n c) (L.take i++[y]++L.drop (i+1))->w.grownBy w' (some g)->wpList prog ops Q rest (a.put o.dst (.slice (some ⟨g,0,none⟩) (i+1) c)) w'):wpList prog ops Q (o::rest) a w:=by
 refine wpList_plain hgd λK hK=>?_;obtain⟨w',hr,h1,h2⟩:=BD w o.type hO hn hi hu;unfold Oper.wp execOp;simp only[ho,resolve,invoke,builtin,Sem.run_bind,Sem.run_pure,Result.andThen_ok,bgb,bgc,bge,hs,hx,hr];exact hK _ _ (h w' h1 h2)
theorem zX {w w':World}(h:w.grownBy w' none)(r:Option Nat):w.grownBy w' r:=⟨h.os,h.tape,h.output,h.size,λj hj _=>h.block j hj (by simp)⟩
theorem Da {w w' w'':World} {g:Nat}(h:w.grownBy w' none)(h':w'.grownBy w'' (some g))(hg:w.heap.size<=g):w.grownBy w'' none:=
 ⟨h'.os.trans h.os,h'.tape.trans h.tape,h'.output.trans h.output,bgn h.size h'.size,λj hj hne=>(h'.block j (Nat.lt_of_lt_of_le hj h.size) (by simp;omega)).trans (h.block j hj hne)⟩
theorem qp {w w':World}(h:w.grownBy w' none):Bw w w':=⟨h.os,h.tape,h.output,h.size,λk hk=>h.block k hk (by simp)⟩
theorem GK(w:World)(base q:Nat)(v:Value)(l:List bn)(y:bn)(hO:bY w base v l)(hq:cz w q y)(hb:base<=w.heap.size)(hn:l.length+1<=1000000):
  Calls prog 101 #[v,.int .i64 (l.length:Int),.slice (some ⟨q,0,none⟩) 1 1] w (mD w base v (l++[y])):=by
 obtain⟨P,hP⟩:=Nm (mD w base v (l++[y]));rw[<-hP];obtain⟨n,hN⟩:=Nm (l.length);have Sl:Hid (∀v' w',bY w' base v' (l++[y])->w.grownBy w' v.ownBlock->(v'.ownBlock=v.ownBlock∨v'.ownBlock=some w.heap.size)->P (.returned v') w'):=Lh (λv' w' h1 h2 h3=>by rw[hP];exact⟨v',rfl,h1,h2,h3⟩)
 have HO:=Lh (bfy hO (bfy hb (bfy hn λj z (hz:y.cells[j]? =some z)=>hq.cell j hz)));have hm1:((1:Int)==0)=false:=rfl;have hsh:=hO.shape;rw[<-hN]at hsh ⊢;have HN:=Lh hN;clear hP hO hq hb hn hN;rcases hsh with⟨rfl,hl⟩ | ⟨g,c,rfl,hc⟩
 ·obtain rfl:n=0:=by rw[HN.out,hl];rfl
  have hsl0:∀w',(Instr.slice 27 (.slice none 0 0) (some (.int .i64 0)) none none).run prog w'=.ok (.slice none 0 0) w':=λw'=>by
   simp[Instr.slice,run_underlying underlying27,Instr.sliceBounds,run_sliceBound,show ∀w,(sizeOf 55).run prog w=.ok 8 w from sizeOf55]
  unfold bS at HO Sl ⊢;clear hl;go_enter func101,ntmps101;go_upto_region 7 with(fail);refine bg4 ?_
  iterate 6 go_step
  refine gJ rfl (.tmp 23) (.tmp 24) rfl base _ l rfl HO.out.1 y q rfl (λj z hz=>HO.out.2.2.2 j z hz) HO.out.2.2.1 HO.out.2.1 ?_;intro v' w' k1 k2 k3;have HZ:=Lh (Sl.out v' w' k1 k2 k3);rcases k1.shape with⟨rfl,h⟩ | ⟨g',c',rfl,_⟩
  ·simp at h
  have HZ:Hid (P (.returned (.slice (some ⟨g',0,none⟩) (l.length+1) c')) w'):=by
   have h:=HZ.out;rw[bft,bg0]at h;exact Lh h
  rw[bft,bg0];clear k1 k2 k3 hsl0;go_wp2_with(fail);exact HZ.out
 obtain⟨o0,ho⟩:=Nm (if c=n then 0 else n*8)
 have hsl0:∀w',(Instr.slice 27 (.slice (some ⟨g,0,none⟩) n c) (some (.int .i64 (n:Int))) none none).run prog w'=.ok (.slice (some ⟨g,o0,none⟩) (n-n) (c-n)) w':=λw'=>by rw[ho];exact jF w' g n c n (bfx _)
 clear ho;have e1:((n:Int)==(n:Int))=true:=by simp
 clear hc;go_enter func101,ntmps101;go_upto_region 7 with(fail);refine bg4 ?_
 iterate 6 go_step
 refine gJ rfl (.tmp 23) (.tmp 24) rfl base _ l rfl HO.out.1 y q rfl (λj z hz=>HO.out.2.2.2 j z hz) HO.out.2.2.1 HO.out.2.1 ?_;intro v' w' k1 k2 k3;have HZ:=Lh (Sl.out v' w' k1 k2 k3);rcases k1.shape with⟨rfl,h⟩ | ⟨g',c',rfl,_⟩
 ·simp at h
 have HZ:Hid (P (.returned (.slice (some ⟨g',0,none⟩) (l.length+1) c')) w'):=by
  have h:=HZ.out;rw[bft,bg0]at h;exact Lh h
 rw[bft,bg0];clear k1 k2 k3 hsl0;go_wp2_with(fail);exact HZ.out
def R7(w:World)(gn n cap i:Nat)(l:List bn)(y:bn):Nat->World->Prop
 | 0,w'=>bY w' w.heap.size (.slice (some ⟨gn,0,none⟩) (n+1) cap) (l.take i++[y]++List.replicate (n-i) cO)/\w.grownBy w' none
 | _+1,w'=>bY w' w.heap.size (.slice (some ⟨gn,0,none⟩) (n+1) cap) (l.take i++[y]++l.drop i)/\w.grownBy w' none
theorem xQ {w w' w'':World}(h:w.grownBy w' none)(hB:Bw w' w''):w.grownBy w'' none:=
 ⟨hB.os.trans h.os,hB.tape.trans h.tape,hB.output.trans h.output,bgn h.size hB.size,λj hj hne=>(hB.block j (Nat.lt_of_lt_of_le hj h.size)).trans (h.block j hj hne)⟩
theorem Fu(w:World)(base g c i q:Nat)(l:List bn)(y:bn)(hO:bY w base (.slice (some ⟨g,0,none⟩) l.length c) l)(hq:cz w q y)(hi:i<l.length)(hc:c<l.length+1)(hb:base<=w.heap.size)(hn:l.length+1<=1000000):
  Calls prog 101 #[.slice (some ⟨g,0,none⟩) l.length c,.int .i64 (i:Int),.slice (some ⟨q,0,none⟩) 1 1] w (mD w base (.slice (some ⟨g,0,none⟩) l.length c) (l.take i++[y]++l.drop i)):=by
 obtain⟨n,hN⟩:=Nm (l.length);rw[<-hN]at hO hi hc hn ⊢;obtain⟨P,hP⟩:=Nm (mD w base (.slice (some ⟨g,0,none⟩) n c) (l.take i++[y]++l.drop i));rw[<-hP];have Sl:Hid (∀gn cap w',bY w' w.heap.size (.slice (some ⟨gn,0,none⟩) (n+1) cap) (l.take i++[y]++l.drop i)->gn=w.heap.size->w.grownBy w' none->P (.returned (.slice (some ⟨gn,0,none⟩) (n+1) cap)) w'):=Lh (λgn cap w' h1 h2 h3=>by
  rw[hP];refine⟨_,rfl,?_,zX h3 _,.inr (by rw[h2];rfl)⟩
  exact bY.mono h1 hb)
 have HO:=Lh (bfy hO (bfy hq (bfy hN hb)));have Vg:Hid (i<n/\c<n+1/\n+1<=1000000/\n<=c):=Lh ⟨hi,hc,hn,by obtain⟨_,_,_,_,_,_,h⟩:=hO.row hN;exact h⟩
 have hnc:n<=c:=Vg.out.2.2.2;have hsl0:∀w',(Instr.slice 27 (.slice (some ⟨g,0,none⟩) n c) (some (.int .i64 (i:Int))) none none).run prog w'=.ok (.slice (some ⟨g,i*8,none⟩) (n-i) (c-i)) w':=λw'=>by
  have h:=jF w' g n c i (by omega)
  rwa [if_neg (by omega)]at h
 have XF:∀w',(Instr.slice 27 (.slice (some ⟨g,0,none⟩) n c) none (some (.int .i64 (i:Int))) none).run prog w'=.ok (.slice (some ⟨g,0,none⟩) i c) w':=λw'=>mV w' _ n c i (by omega)
 have hm1:((1:Int)==0)=false:=rfl;have e1:((i:Int)==(n:Int))=false:=by simpa using λh:(i:Int)=(n:Int)=>by omega
 have hgt:(c:Int)<(n:Int)+1:=by omega
 have HS0:=Lh hsl0;clear hP hN hO hq hb;go_enter func101,ntmps101;go_upto_region 9 with(fail);refine bg4 ?_
 iterate 24 go_step
 refine CK rfl (.tmp 34) (.tmp 39) rfl (m:=n+1-i) (HO.out.1.take HO.out.2.2.1 (by omega)) (by rw[bga,<-HO.out.2.2.1];omega) (by omega) (by omega) (by omega) rfl _ rfl (by omega) ?_
 intro cap w2 k1 k2;rw[show i+(n+1-i)=n+1 by omega]at k1 ⊢
 obtain⟨gn,hgn⟩:=Nm (w.heap.size);rw[<-hgn]at k1 ⊢;have hcap:n+1<=cap:=by obtain⟨_,_,_,_,_,_,h⟩:=k1.row (by rw[bft,List.length_replicate,bga,<-HO.out.2.2.1];omega);exact h
 have H2:Hid (bY w2 w.heap.size (.slice (some ⟨gn,0,none⟩) (n+1) cap) (l.take i++List.replicate (n+1-i) cO)/\w.grownBy w2 none/\gn=w.heap.size):=Lh ⟨by rw[<-hgn];exact k1,k2,hgn⟩
 clear k1 k2 hgn;have hs1:∀w',(Instr.slice 27 (.slice (some ⟨gn,0,none⟩) (n+1) cap) (some (.int .i64 (i:Int))) none none).run prog w'=.ok (.slice (some ⟨gn,i*8,none⟩) (n+1-i) (cap-i)) w':=λw'=>by
  have h:=jF w' gn (n+1) cap i (by omega)
  rwa [if_neg (by omega)]at h
 have hs2:∀w',(Instr.slice 27 (.slice (some ⟨gn,0,none⟩) (n+1) cap) (some (.int .i64 ((i:Int)+1))) none none).run prog w'=.ok (.slice (some ⟨gn,(i+1)*8,none⟩) (n-i) (cap-(i+1))) w':=λw'=>by
  have h:=jF w' gn (n+1) cap (i+1) (by omega)
  rwa [if_neg (by omega),show((i+1:Nat):Int)=(i:Int)+1 by omega,show n+1-(i+1)=n-i by omega]at h
 go_upto_region 10 with(fail);refine bg4 ?_
 iterate 12 go_step
 refine qF rfl (.tmp 43) (.tmp 44) rfl (M:=[y]) (i:=i) (k:=1) H2.out.1 (by rw[bft,List.length_replicate,bga,<-HO.out.2.2.1];omega) rfl (by omega) (n+1-i) (cap-i) ⟨q,0,none⟩ 1 1 (Nat.min_eq_left (by omega)).symm (λj v hj=>by
  rw[addr_add,bgu];have hR:=HO.out.2.1.below (qp H2.out.2.1);exact hR.cell j (by simpa[bP]using hj)) rfl rfl ?_
 intro w3 j1 j2;have hL1:(l.take i++List.replicate (n+1-i) cO).take i++[y]++(l.take i++List.replicate (n+1-i) cO).drop (i+1)=l.take i++[y]++List.replicate (n-i) cO:=by
  have hl:(l.take i).length=i:=by rw[bga,<-HO.out.2.2.1];omega
  rw[List.take_left' hl,List.drop_append,List.drop_eq_nil_of_le (by omega),hl,List.nil_append,List.drop_replicate]
  congr 2
  omega
 rw[hL1]at j1;have H3:Hid (bY w3 w.heap.size (.slice (some ⟨gn,0,none⟩) (n+1) cap) (l.take i++[y]++List.replicate (n-i) cO)/\w.grownBy w3 none/\gn=w.heap.size):=Lh ⟨j1,Da H2.out.2.1 j2 (by rw[H2.out.2.2];exact bfx _),H2.out.2.2⟩
 clear j1 j2 hL1 H2;have HS:=Lh (bfy hs2 (bfy hcap hi));clear hs1 hs2;go_upto_region 11 with(fail);have SB:Hid (R7 w gn n cap i l y 0 w3.drew):=by
  have hd:=(Below.refl w3.heap.size w3).drew;exact Lh ⟨H3.out.1.far hd,xQ H3.out.2.1 hd⟩
 refine bD (λi=>([]:List Nat).contains i) (by kernel_rfl) (NoF [none,none,none,some 0]) [8] (V4 ((Value.slice (some ⟨gn,0,none⟩) (n+1) cap)::(Value.int .i64 (i:Int))::(Value.int .i64 (1:Int))::(Value.int .i64 ((i:Int)+1))::(Value.slice (some ⟨gn,(i+1)*8,none⟩) (n-i) (cap-(i+1)))::(Value.slice (some ⟨g,0,none⟩) n c)::(Value.int .i64 (i:Int))::(Value.slice (some ⟨g,i*8,none⟩) (n-i) (c-i))::goInt ((n-i:Nat):Int)::([]:List Value)) 99 (λ_ _ _=>True) 99 (λ_ _ _=>True) 99 (λ_ _ _=>True) 99 (λ_ _ _=>True)) (R7 w gn n cap i l y) (λw w'=>Bw w w') (qm _ (λ_ _ _ _ _ h=>h) (λ_ _ _ _ _ h=>h) (λ_ _ _ _ _ h=>h) (λ_ _ _ _ _ h=>h)) (by kernel_rfl) (by kernel_rfl) (by kernel_rfl) SB.out (λ_=>⟨rfl,rfl,rfl,rfl,rfl,rfl,rfl,rfl,rfl,trivial⟩) (λ_ h=>by simp at h) ?_ ?_
 ·refine ⟨?_,?_,?_,?_,?_,?_,?_,?_,?_,trivial⟩<;>(first|(intro _ _ a w' hG Si Sj K hK;guard_hyp w':World)|intro _ a w' hG Si Sj K hK)<;>replace Si:=Lh Si<;>replace Sj:=Lh Sj
  have q9:=FoA Si 9 (.slice (some ⟨gn,0,none⟩) (n+1) cap);rotate_left;have q1:=FiA Si 1 i;rotate_left;have q7:=FiA Si 7 1;rotate_left;have Zz:=Pi a 47 i Sj.out.1;have Z7:=Pi a 48 1 Sj.out.2.1;have hlt:=Vg.out;rotate_left;have Zy:=Ep a 46 (.slice (some ⟨gn,0,none⟩) (n+1) cap) Sj.out.1;have iF:=Ep a 49 (.int .i64 ((i:Int)+1)) Sj.out.2.1;have hsl:=HS.out.1;rotate_left;have q0:=FoA Si 0 (.slice (some ⟨g,0,none⟩) n c);rotate_left;have q1:=FiA Si 1 i;rotate_left;have EY:=Ep a 51 (.slice (some ⟨g,0,none⟩) n c) Sj.out.1;have AV:=Pi a 52 i Sj.out.2.1;have hsl:=HS0.out;rotate_left
  ·obtain ⟨p0,p1,_⟩:=Sj.out;have UA:=(show a.eval (.tmp 50)=.slice (some ⟨gn,(i+1)*8,none⟩) (n - i) (cap - (i+1))from p0);have r53:=(show a.eval (.tmp 53)=.slice (some ⟨g,i*8,none⟩) (n - i) (c - i)from p1);obtain⟨hO2,hgr⟩:=(show bY w' w.heap.size (.slice (some ⟨gn,0,none⟩) (n+1) cap) (l.take i++[y]++List.replicate (n - i) cO)/\w.grownBy w' none from hG);have hlt:=Vg.out;have hN:=HO.out.2.2.1;have hl1:(l.take i++[y]).length=i+1:=by rw[bft,bga,<-hN,bg0];omega
   refine rG (.tmp 50) (.tmp 53) rfl (M:=l.drop i) (i:=i+1) (k:=n-i) hO2 (by rw[bft,hl1,List.length_replicate];omega) (by rw[bgx,<-hN]) (by omega) (n-i) (cap-(i+1)) ⟨g,i*8,none⟩ (n-i) (c-i) (Nat.min_self _).symm (λj v hj=>?_) UA r53 (λw3_ m1 m2=>?_)
   ·exact(HO.out.1.far (qp hgr)).xM hN (by omega) j v hj
   have hdn:(l.take i++[y]++List.replicate (n-i) cO).drop (i+1+(n-i))=[]:=List.drop_eq_nil_of_le (by rw[bft,hl1,List.length_replicate];omega)
   rw[List.take_left' hl1,hdn,bg2]at m1;exact hK _ _ rfl ⟨m1,Da hgr m2 (by rw[H3.out.2.2];exact bfx _)⟩ (jq (.inr λ_ h=>h) (.inr λ_ h=>h) (.inr λ_ h=>h) (.inr λ_ h=>h))
  all_goals(go_step;exact hK _ _ rfl hG Br)
 intro vs w2_ hG hlen hV
 match vs,hlen,hV with
 | [v0,v1,v2,v3,v4,v5,v6,v7,v8],_,hV=>
  clear hV;have hG1:bY w2_ w.heap.size (.slice (some ⟨gn,0,none⟩) (n+1) cap) (l.take i++[y]++l.drop i)/\w.grownBy w2_ none:=hG;have HZ:=Lh (Sl.out gn cap w2_ hG1.1 H3.out.2.2 hG1.2);clear hG hG1;simp only[dG,bf7,bf1];simp only[Act.put,bfw,bfu,bfv];go_wp2_with(fail);exact HZ.out
theorem GI(w:World)(base i q:Nat)(v:Value)(l:List bn)(y:bn)(hO:bY w base v l)(hq:cz w q y)(Yq:v.ownBlock≠some q)(hi:i<=l.length)(hb:base<=w.heap.size)(hn:l.length+1<=1000000):
  Calls prog 101 #[v,.int .i64 (i:Int),.slice (some ⟨q,0,none⟩) 1 1] w (mD w base v (l.take i++[y]++l.drop i)):=by
 by_cases he:i=l.length
 ·subst he;rw[bgs,List.drop_length,bg2];exact GK w base q v l y hO hq hb hn
 rcases hO.shape with⟨rfl,hl⟩ | ⟨g,c,rfl,hc⟩
 ·rw[hl]at hi he;simp at hi he;omega
 by_cases hr:l.length+1<=c
 ·refine(GJ w base g c i q l y hO hq (λe=>Yq (by rw[e];rfl)) hi hr (by omega)).mono ?_
  rintro e w' ⟨rfl,h1,h2⟩;exact⟨_,rfl,h1,h2,.inl rfl⟩
 exact Fu w base g c i q l y hO hq (by omega) (by omega) hb hn
theorem rA(w:World)(g n c i j:Nat)(h:i<=j)(hj:j<=n)(hnc:n<=c):
  (Instr.slice 27 (.slice (some ⟨g,0,none⟩) n c) (some (.int .i64 (i:Int))) (some (.int .i64 (j:Int))) none).run prog w=.ok (.slice (some ⟨g,(if c=i then 0 else i*8),none⟩) (j-i) (c-i)) w:=by
 have hz:∀w,(sizeOf 55).run prog w=.ok 8 w:=sizeOf55;have hjc:j<=c:=by omega
 by_cases e:c=i
 ·subst e;simp[Instr.slice,run_underlying underlying27,Instr.sliceBounds,run_sliceBound,hz,h,hjc]
 simp[Instr.slice,run_underlying underlying27,Instr.sliceBounds,run_sliceBound,hz,h,hjc,addr_add,e]
def R9(w:World)(base g n c i j:Nat)(l:List bn)(y:bn):Nat->World->Prop
 | 0,w'=>bY w' base (.slice (some ⟨g,0,none⟩) n c) (l.take i++[y]++l.drop (i+1))/\w.grownBy w' (some g)
 | _+1,w'=>bY w' base (.slice (some ⟨g,0,none⟩) n c) ((l.take i++[y]++l.drop (i+1)).take (i+1)++l.drop j++(l.take i++[y]++l.drop (i+1)).drop (i+1+(n-j)))/\w.grownBy w' (some g)
theorem LX {w w' w'':World} {r:Option Nat}(h:w.grownBy w' r)(hB:Bw w' w''):w.grownBy w'' r:=
 ⟨hB.os.trans h.os,hB.tape.trans h.tape,hB.output.trans h.output,bgn h.size hB.size,λj hj hne=>(hB.block j (Nat.lt_of_lt_of_le hj h.size)).trans (h.block j hj hne)⟩
theorem mY {w w' w'':World} {r:Option Nat}(h:w.grownBy w' r)(h':w'.grownBy w'' r):w.grownBy w'' r:=
 ⟨h'.os.trans h.os,h'.tape.trans h.tape,h'.output.trans h.output,bgn h.size h'.size,λj hj hne=>(h'.block j (Nat.lt_of_lt_of_le hj h.size) hne).trans (h.block j hj hne)⟩
theorem G5(w:World)(base g c i j q:Nat)(l:List bn)(y:bn)(hO:bY w base (.slice (some ⟨g,0,none⟩) l.length c) l)(hq:cz w q y)(Yq:q≠g)(hij:i<j)(hj:j<=l.length)(hn:l.length+1<=1000000):
  Calls prog 66 #[.slice (some ⟨g,0,none⟩) l.length c,.int .i64 (i:Int),.int .i64 (j:Int),.slice (some ⟨q,0,none⟩) 1 1] w (mD w base (.slice (some ⟨g,0,none⟩) l.length c) (l.take i++[y]++l.drop j)):=by
 obtain⟨n,hN⟩:=Nm (l.length);rw[<-hN]at hO hj hn ⊢;obtain⟨P,hP⟩:=Nm (mD w base (.slice (some ⟨g,0,none⟩) n c) (l.take i++[y]++l.drop j));rw[<-hP];have Sl:Hid (∀T w',bY w' base (.slice (some ⟨g,0,none⟩) T c) (l.take i++[y]++l.drop j)->w.grownBy w' (some g)->P (.returned (.slice (some ⟨g,0,none⟩) T c)) w'):=Lh (λT w' h1 h2=>by
  rw[hP];exact⟨_,rfl,h1,h2,.inl rfl⟩)
 have hnc:n<=c:=by obtain⟨_,_,_,_,_,_,h⟩:=hO.row hN;exact h
 have HO:=Lh (bfy hO (bfy hq (bfy hN Yq)));have Vg:Hid (i<j/\j<=n/\n+1<=1000000/\n<=c):=Lh ⟨hij,hj,hn,hnc⟩;have hl1:(l.take i++[y]).length=i+1:=by rw[bft,bga,<-hN,bg0];omega
 have WQ:=Lh hl1;have hsij:∀w',(Instr.slice 27 (.slice (some ⟨g,0,none⟩) n c) (some (.int .i64 (i:Int))) (some (.int .i64 (j:Int))) none).run prog w'=.ok (.slice (some ⟨g,i*8,none⟩) (j-i) (c-i)) w':=λw'=>by
  have h:=rA w' g n c i j (by omega) hj hnc
  rwa [if_neg (by omega)]at h
 have XF:∀w',(Instr.slice 27 (.slice (some ⟨g,0,none⟩) n c) none (some (.int .i64 (i:Int))) none).run prog w'=.ok (.slice (some ⟨g,0,none⟩) i c) w':=λw'=>mV w' _ n c i (by omega)
 have e0:((i:Int)==(j:Int))=false:=by simpa using λh:(i:Int)=(j:Int)=>by omega
 clear hP hN hO hq Yq hl1;by_cases hjn:j=n
 ·subst hjn;have e1:((j:Int)==(j:Int))=true:=by simp
  go_enter func66,ntmps66;go_upto_region 5 with(fail);refine bg4 ?_
  iterate 12 go_step
  refine xC rfl (.tmp 32) (.tmp 33) rfl (i:=i) HO.out.1 HO.out.2.2.1 (by omega) (λk z hz=>HO.out.2.1.cell k hz) rfl rfl ?_
  intro w2 k1 k2;have H2:Hid (bY w2 base (.slice (some ⟨g,0,none⟩) j c) (l.take i++[y]++l.drop (i+1))/\w.grownBy w2 (some g)):=Lh ⟨k1,k2⟩;have ZT:j=(l.take i++[y]++l.drop (i+1)).length:=by rw[bft,WQ.out,bgx,<-HO.out.2.2.1];omega
  have htk:(l.take i++[y]++l.drop (i+1)).take (i+1)=l.take i++[y]++l.drop j:=by
   rw[List.take_left' WQ.out,List.drop_eq_nil_of_le (show l.length<=j by rw[<-HO.out.2.2.1];exact bfx _),bg2]
  have HT:=Lh (bfy ZT htk);clear k1 k2 ZT htk;by_cases hlt:i+1<j
  ·have hlt':(i:Int)+1<(j:Int):=by omega
   obtain⟨o0,ho⟩:=Nm (if c=i+1 then 0 else (i+1)*8)
   have Ho:=Lh ho;have hs2:∀w',(Instr.slice 27 (.slice (some ⟨g,0,none⟩) j c) (some (.int .i64 ((i:Int)+1))) none none).run prog w'=.ok (.slice (some ⟨g,o0,none⟩) (j-(i+1)) (c-(i+1))) w':=λw'=>by
    have h:=jF w' g j c (i+1) (by omega)
    rwa [<-ho,show((i+1:Nat):Int)=(i:Int)+1 by omega]at h
   clear ho;go_upto_region 7 with(fail);refine bg4 ?_
   iterate 12 go_step
   refine pW rfl (.tmp 43) rfl (i:=i+1) H2.out.1 HT.out.1 (by omega) (by rw[<-Ho.out];rfl) ?_
   intro w3 j1 j2;have HZ:Hid (P (.returned (.slice (some ⟨g,0,none⟩) (i+1) c)) w3):=by
    rw[HT.out.2]at j1;exact Lh (Sl.out (i+1) w3 j1 (mY H2.out.2 j2))
   clear j1 j2 hs2;go_wp2_with(fail);exact HZ.out
  have hlt':¬((i:Int)+1<(j:Int)):=by omega
  have HZ:Hid (P (.returned (.slice (some ⟨g,0,none⟩) (i+1) c)) w2):=by
   have h:=H2.out.1.take HT.out.1 (i:=i+1) (by omega)
   rw[HT.out.2]at h;exact Lh (Sl.out (i+1) w2 h H2.out.2)
  go_wp2_with(fail);exact HZ.out
 have hjlt:j<n:=by omega
 have e1:((j:Int)==(n:Int))=false:=by simpa using λh:(j:Int)=(n:Int)=>hjn (by omega)
 obtain⟨T,hT⟩:=Nm (i+1+(n - j));have HT:Hid (T=i+1+(n-j)/\T<=n/\(i:Int)+1+((n-j:Nat):Int)=(T:Int)/\j<n):=Lh ⟨hT,by omega,by omega,hjlt⟩
 have hsj:∀w',(Instr.slice 27 (.slice (some ⟨g,0,none⟩) n c) (some (.int .i64 (j:Int))) none none).run prog w'=.ok (.slice (some ⟨g,j*8,none⟩) (n-j) (c-j)) w':=λw'=>by
  have h:=jF w' g n c j hj
  rwa [if_neg (by omega)]at h
 have O3:∀w',(Instr.slice 27 (.slice (some ⟨g,0,none⟩) n c) none (some (.int .i64 (T:Int))) none).run prog w'=.ok (.slice (some ⟨g,0,none⟩) T c) w':=λw'=>mV w' _ n c T (by omega)
 have eZ:∀w',(Instr.slice 27 (.slice (some ⟨g,0,none⟩) T c) (some (.int .i64 (i:Int))) none none).run prog w'=.ok (.slice (some ⟨g,i*8,none⟩) (T-i) (c-i)) w':=λw'=>by
  have h:=jF w' g T c i (by omega)
  rwa [if_neg (by omega)]at h
 have O4:∀w',(Instr.slice 27 (.slice (some ⟨g,0,none⟩) T c) (some (.int .i64 ((i:Int)+1))) none none).run prog w'=.ok (.slice (some ⟨g,(i+1)*8,none⟩) (n-j) (c-(i+1))) w':=λw'=>by
  have h:=jF w' g T c (i+1) (by omega)
  rwa [if_neg (by omega),show((i+1:Nat):Int)=(i:Int)+1 by omega,show T-(i+1)=n-j by omega]at h
 obtain⟨o0,ho⟩:=Nm (if c=T then 0 else T*8)
 have Ho:=Lh ho;have XE:∀w',(Instr.slice 27 (.slice (some ⟨g,0,none⟩) n c) (some (.int .i64 (T:Int))) none none).run prog w'=.ok (.slice (some ⟨g,o0,none⟩) (n-T) (c-T)) w':=λw'=>by
  rw[ho];exact jF w' g n c T (by omega)
 have HS:=Lh (bfy XF (bfy hsj O4));have OG:¬((c:Int)<(T:Int)):=by omega
 have hle:(i:Int)+1<=(j:Int):=by omega
 clear ho hT hjn;go_enter func66,ntmps66;go_upto_region 9 with(fail);have SB:Hid (w.drew=w.drew):=Lh rfl;have HR:=Lh (bfy eZ (bfy XE (bfy O3 (bfy OG hle))));refine bD (λi=>([]:List Nat).contains i) (by kernel_rfl) (NoF (NoF [none,none,none])) [] (λi_ _ _ v_=>v_=((([.slice (some ⟨g,0,none⟩) n c,.int .i64 (i:Int),.slice (some ⟨g,0,none⟩) i c,.int .i64 (i:Int),.slice (some ⟨q,0,none⟩) 1 1,.int .i64 (1:Int),.int .i64 ((i:Int)+1),.slice (some ⟨g,0,none⟩) n c,.int .i64 (j:Int),.slice (some ⟨g,j*8,none⟩) (n-j) (c-j),.int .i64 ((n-j:Nat):Int),.int .i64 (T:Int),.int .i64 (T:Int)]:List Value))).getD i_ undef) (λ_ w'=>Bw w w') (λw w'=>Bw w w') (λ_ _ _ _ _ _ h=>h) (by kernel_rfl) (by kernel_rfl) (by kernel_rfl) (show Bw w w.drew from(Below.refl _ w).drew) (λ_=>⟨rfl,rfl,rfl,rfl,rfl,rfl,rfl,rfl,rfl,rfl,rfl,rfl,rfl,trivial⟩) (λ_ h=>by simp at h) ?_ ?_
 ·refine ⟨?_,?_,?_,?_,?_,?_,?_,?_,?_,?_,?_,?_,?_,trivial⟩<;>intro _ _ a w' hG Si Sj K hK<;>replace Si:=Lh Si<;>replace Sj:=Lh Sj
  have q0:=FoA Si 0 (.slice (some ⟨g,0,none⟩) n c);rotate_left;have q1:=FiA Si 1 i;rotate_left;have Z6:=Ep a 45 (.slice (some ⟨g,0,none⟩) n c) Sj.out.1;have Zy:=Pi a 46 i Sj.out.2.1;have hsl:=HS.out.1;rotate_left;have Zz:=Ep a 47 (.slice (some ⟨g,0,none⟩) i c) Sj.out.1;rotate_left;have q3:=FoA Si 3 (.slice (some ⟨q,0,none⟩) 1 1);rotate_left;have iF:=Ep a 49 (.slice (some ⟨q,0,none⟩) 1 1) Sj.out.1;rotate_left;have Z7:=Pi a 48 i Sj.out.1;have EX:=Pi a 50 1 Sj.out.2.1;have hl:=Vg.out;rotate_left;have q0:=FoA Si 0 (.slice (some ⟨g,0,none⟩) n c);rotate_left;have q2:=FiA Si 2 j;rotate_left;have AV:=Ep a 52 (.slice (some ⟨g,0,none⟩) n c) Sj.out.1;have Um:=Pi a 53 j Sj.out.2.1;have hsl:=HS.out.2.1;rotate_left;have EZ:=Ep a 54 (.slice (some ⟨g,j*8,none⟩) (n-j) (c-j)) Sj.out.1;rotate_left;have EY:=Ep a 51 (.int .i64 ((i:Int)+1)) Sj.out.1;have ZA:=Ep a 55 (.int .i64 ((n-j:Nat):Int)) Sj.out.2.1;obtain⟨hl1,hl2,hl3,hl4⟩:=Vg.out;have hT:=HT.out.2.2.1;have hT2:=HT.out.2.1;rotate_left;have q56:=Pi a 56 T Sj.out.1;rotate_left
  all_goals(go_step;exact hK _ _ rfl hG Br)
 intro vs w2 hG hlen hV
 match vs,hlen,hV with
 | [v0,v1,v2,v3,v4,v5,v6,v7,v8,v9,v10,v11,v12],_,hV=>
  obtain rfl:v12=.int .i64 (T:Int):=(hV 12 10 v12 rfl rfl);clear hV;simp only[dG,bf7,bf1];simp only[Act.put,bfw,bfu,bfv];have HW2:Hid (w.grownBy w2 none/\bY w2 base (.slice (some ⟨g,0,none⟩) n c) l/\cz w2 q y):=by
   have hgr:w.grownBy w2 none:=⟨hG.os,hG.tape,hG.output,hG.size,λk hk _=>hG.block k hk⟩;exact Lh ⟨hgr,HO.out.1.far hG,HO.out.2.1.below hG⟩
  clear hG;obtain⟨eZ,XE,O3,OG,hle⟩:=HR.out;go_upto_region 17 with(fail);refine bg4 ?_
  iterate 12 go_step
  refine qF rfl (.tmp 95) (.tmp 96) rfl (M:=[y]) (i:=i) (k:=1) HW2.out.2.1 HO.out.2.2.1 rfl (by have:=Vg.out;omega) (T-i) (c-i) ⟨q,0,none⟩ 1 1 (Nat.min_eq_left (by have:=HT.out;omega)).symm (λk v hk=>by
   rw[addr_add,bgu];exact HW2.out.2.2.cell k (by simpa[bP]using hk)) rfl rfl ?_
  intro w3 j1 j2;have H3:Hid (bY w3 base (.slice (some ⟨g,0,none⟩) n c) (l.take i++[y]++l.drop (i+1))/\w.grownBy w3 (some g)):=Lh ⟨j1,mY (zX HW2.out.1 _) j2⟩;clear j1 j2;have HR2:=Lh XE;clear eZ XE O3 OG hle;go_upto_region 18 with(fail);have oP:Hid (R9 w base g n c i j l y 0 w3.drew):=by
   have hd:=(Below.refl w3.heap.size w3).drew;exact Lh ⟨H3.out.1.far hd,LX H3.out.2 hd⟩
  refine bD (λi=>([]:List Nat).contains i) (by kernel_rfl) (NoF [none,none,none,none,some 0]) [9] (V4 ((Value.slice (some ⟨g,0,none⟩) T c)::(Value.int .i64 (i:Int))::(Value.slice (some ⟨q,0,none⟩) 1 1)::(Value.int .i64 (1:Int))::(Value.int .i64 ((i:Int)+1))::(Value.slice (some ⟨g,(i+1)*8,none⟩) (n-j) (c-(i+1)))::(Value.slice (some ⟨g,0,none⟩) n c)::(Value.int .i64 (j:Int))::(Value.slice (some ⟨g,j*8,none⟩) (n-j) (c-j))::goInt ((n-j:Nat):Int)::([]:List Value)) 99 (λ_ _ _=>True) 99 (λ_ _ _=>True) 99 (λ_ _ _=>True) 99 (λ_ _ _=>True)) (R9 w base g n c i j l y) (λw w'=>Bw w w') (qm _ (λ_ _ _ _ _ h=>h) (λ_ _ _ _ _ h=>h) (λ_ _ _ _ _ h=>h) (λ_ _ _ _ _ h=>h)) (by kernel_rfl) (by kernel_rfl) (by kernel_rfl) oP.out (λ_=>⟨rfl,rfl,rfl,rfl,rfl,rfl,rfl,rfl,rfl,rfl,trivial⟩) (λ_ h=>by simp at h) ?_ ?_
  ·refine ⟨?_,?_,?_,?_,?_,?_,?_,?_,?_,?_,trivial⟩<;>(first|(intro _ _ a w' hG Si Sj K hK;guard_hyp w':World)|intro _ a w' hG Si Sj K hK)<;>replace Si:=Lh Si<;>replace Sj:=Lh Sj
   have VU:=FoA Si 12 (.slice (some ⟨g,0,none⟩) T c);rotate_left;have q1:=FiA Si 1 i;rotate_left;have q3:=FoA Si 3 (.slice (some ⟨q,0,none⟩) 1 1);rotate_left;have iA:=Ep a 100 (.slice (some ⟨q,0,none⟩) 1 1) Sj.out.1;rotate_left;have Uu:=Pi a 99 i Sj.out.1;have iB:=Pi a 101 1 Sj.out.2.1;have hl:=Vg.out;rotate_left;have A8:=Ep a 98 (.slice (some ⟨g,0,none⟩) T c) Sj.out.1;have iC:=Ep a 102 (.int .i64 ((i:Int)+1)) Sj.out.2.1;have hsl:=HS.out.2.2;rotate_left;have q0:=FoA Si 0 (.slice (some ⟨g,0,none⟩) n c);rotate_left;have q2:=FiA Si 2 j;rotate_left;have iD:=Ep a 104 (.slice (some ⟨g,0,none⟩) n c) Sj.out.1;have iE:=Pi a 105 j Sj.out.2.1;have hsl:=HS.out.2.1;rotate_left
   ·obtain ⟨p0,p1,_⟩:=Sj.out;have Uv:=(show a.eval (.tmp 103)=.slice (some ⟨g,(i+1)*8,none⟩) (n-j) (c-(i+1))from p0);have Uw:=(show a.eval (.tmp 106)=.slice (some ⟨g,j*8,none⟩) (n-j) (c-j)from p1);obtain⟨hO2,hgr⟩:=(show bY w' base (.slice (some ⟨g,0,none⟩) n c) (l.take i++[y]++l.drop (i+1))/\w.grownBy w' (some g)from hG);obtain⟨b1,b2,b3,b4⟩:=Vg.out;obtain⟨t1,t2,t3,t4⟩:=HT.out;have hN:=HO.out.2.2.1;have hlen:n=(l.take i++[y]++l.drop (i+1)).length:=by rw[bft,WQ.out,bgx,<-hN];omega
    have hdj:(l.take i++[y]++l.drop (i+1)).drop j=l.drop j:=by
     rw[List.drop_append,List.drop_eq_nil_of_le (show(l.take i++[y]).length<=j by rw[WQ.out];omega),WQ.out,List.nil_append,List.drop_drop]
     congr 1
     omega
    refine rG (.tmp 103) (.tmp 106) rfl (M:=l.drop j) (i:=i+1) (k:=n-j) hO2 hlen (by rw[bgx,<-hN]) (by omega) (n-j) (c-(i+1)) ⟨g,j*8,none⟩ (n-j) (c-j) (Nat.min_self _).symm (λk v hk=>?_) Uv Uw (λw4_ m1 m2=>?_)
    ·have h:=hO2.xM hlen (show j<=n by omega) k v
     rw[hdj]at h;exact h hk
    exact hK _ _ rfl ⟨m1,mY hgr m2⟩ (jq (.inr λ_ h=>h) (.inr λ_ h=>h) (.inr λ_ h=>h) (.inr λ_ h=>h))
   all_goals(go_step;exact hK _ _ rfl hG Br)
  intro vs w4_ hG hlen hV
  match vs,hlen,hV with
  | [v0,v1,v2,v3,v4,v5,v6,v7,v8,v9],_,hV=>
   clear hV;have hG1:bY w4_ base (.slice (some ⟨g,0,none⟩) n c) ((l.take i++[y]++l.drop (i+1)).take (i+1)++l.drop j++(l.take i++[y]++l.drop (i+1)).drop (i+1+(n-j)))/\w.grownBy w4_ (some g):=hG;have H4:Hid (bY w4_ base (.slice (some ⟨g,0,none⟩) n c) (l.take i++[y]++l.drop j++(l.take i++[y]++l.drop (i+1)).drop T)/\w.grownBy w4_ (some g)/\n=(l.take i++[y]++l.drop j++(l.take i++[y]++l.drop (i+1)).drop T).length/\(l.take i++[y]++l.drop j++(l.take i++[y]++l.drop (i+1)).drop T).take T=l.take i++[y]++l.drop j):=by
    obtain⟨b1,b2,b3,b4⟩:=Vg.out;obtain⟨t1,t2,t3,t4⟩:=HT.out;have hN:=HO.out.2.2.1;have hl2:(l.take i++[y]++l.drop j).length=T:=by rw[bft,WQ.out,bgx,<-hN];omega
    have h:=hG1.1;rw[List.take_left' WQ.out,<-t1]at h;exact Lh ⟨h,hG1.2,by rw[bft,hl2,bgx,bft,WQ.out,bgx,<-hN];omega,List.take_left' hl2⟩
   clear hG hG1;simp only[dG,bf7,bf1];simp only[Act.put,bfw,bfu,bfv];have XE:=HR2.out;go_upto_region 19 with(fail);refine bg4 ?_
   iterate 9 go_step
   refine pW rfl (.tmp 110) rfl (i:=T) H4.out.1 H4.out.2.2.1 HT.out.2.1 (by rw[<-Ho.out];rfl) ?_
   intro w5 m1 m2;have HZ:Hid (P (.returned (.slice (some ⟨g,0,none⟩) T c)) w5):=by
    rw[H4.out.2.2.2]at m1;exact Lh (Sl.out T w5 m1 (mY H4.out.2.1 m2))
   clear m1 m2 XE;go_wp2_with(fail);exact HZ.out
theorem FC(w:World)(base i q:Nat)(v:Value)(l:List bn)(y:bn)(hO:bY w base v l)(hq:cz w q y)(Yq:v.ownBlock≠some q)(hi:i<=l.length)(hb:base<=w.heap.size)(hn:l.length+1<=1000000):
  Calls prog 66 #[v,.int .i64 (i:Int),.int .i64 (i:Int),.slice (some ⟨q,0,none⟩) 1 1] w (mD w base v (l.take i++[y]++l.drop i)):=by
 have HC:=Lh (GI w base i q v l y hO hq Yq hi hb hn);obtain⟨P,hP⟩:=Nm (mD w base v (l.take i++[y]++l.drop i));have U4:Hid (∀v' w',bY w' base v' (l.take i++[y]++l.drop i)->w.grownBy w' v.ownBlock->(v'.ownBlock=v.ownBlock∨v'.ownBlock=some w.heap.size)->P (.returned v') w'):=Lh (λv' w' h1 h2 h3=>by rw[hP];exact⟨v',rfl,h1,h2,h3⟩)
 rw[<-hP];rcases hO.shape with⟨rfl,hl⟩ | ⟨g,c,rfl,hc⟩
 ·obtain rfl:i=0:=by rw[hl]at hi;simpa using hi
  have hs:∀w',(Instr.slice 27 (.slice none 0 0) (some (.int .i64 0)) (some (.int .i64 0)) none).run prog w'=.ok (.slice none 0 0) w':=λw'=>by
   simp[Instr.slice,run_underlying underlying27,Instr.sliceBounds,run_sliceBound,show ∀w,(sizeOf 55).run prog w=.ok 8 w from sizeOf55]
  unfold bS at HC ⊢;rw[show((0:Nat):Int)=0 from rfl]at HC ⊢;clear hP hO hq Yq hi hb hn hl;go_enter func66,ntmps66;go_wp2_with(fail);refine HC.out.mono ?_;rintro e w' ⟨v',rfl,h1,h2,h3⟩;have HZ:=Lh (U4.out v' w' h1 h2 h3);have hsh:=h1.shape;clear h1 h2 h3;dsimp only;rcases hsh with⟨rfl,h⟩ | ⟨g',c',rfl,_⟩
  ·simp at h
  go_wp2_with(fail);exact HZ.out
 obtain⟨n,hN⟩:=Nm (l.length);rw[<-hN]at HC hc hi ⊢;obtain⟨o0,ho⟩:=Nm (if c=i then 0 else i*8)
 have hs:∀w',(Instr.slice 27 (.slice (some ⟨g,0,none⟩) n c) (some (.int .i64 (i:Int))) (some (.int .i64 (i:Int))) none).run prog w'=.ok (.slice (some ⟨g,o0,none⟩) (i-i) (c-i)) w':=λw'=>by
  rw[ho];exact rA w' g n c i i (bfx _) hi hc
 have e1:((i:Int)==(i:Int))=true:=by simp
 clear hP hO hq Yq hi hb hn ho hN hc;go_enter func66,ntmps66;go_wp2_with(fail);refine HC.out.mono ?_;rintro e w' ⟨v',rfl,h1,h2,h3⟩;have HZ:=Lh (U4.out v' w' h1 h2 h3);have hsh:=h1.shape;clear h1 h2 h3;dsimp only;rcases hsh with⟨rfl,h⟩ | ⟨g',c',rfl,_⟩
 ·simp at h
 go_wp2_with(fail);exact HZ.out
theorem wV(w:World)(base i j q:Nat)(v:Value)(l:List bn)(y:bn)(hO:bY w base v l)(hq:cz w q y)(Yq:v.ownBlock≠some q)(hij:i<=j)(hj:j<=l.length)(hb:base<=w.heap.size)(hn:l.length+1<=1000000):
  Calls prog 66 #[v,.int .i64 (i:Int),.int .i64 (j:Int),.slice (some ⟨q,0,none⟩) 1 1] w (mD w base v (l.take i++[y]++l.drop j)):=by
 by_cases he:i=j
 ·subst he;exact FC w base i q v l y hO hq Yq hj hb hn
 rcases hO.shape with⟨rfl,hl⟩ | ⟨g,c,rfl,hc⟩
 ·rw[hl]at hj;simp at hj;omega
 exact G5 w base g c i j q l y hO hq (λe=>Yq (by rw[e];rfl)) (by omega) hj hn
end Go.Proofs.YtjeeghafachebaaGreat
