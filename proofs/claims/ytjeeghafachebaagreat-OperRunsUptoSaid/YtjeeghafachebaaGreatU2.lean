/-
  2.
-/
import Derived.Test.YtjeeghafachebaaGreatRows
import Derived.WalkSpells
import Derived.BigQuiet
import Derived.Deep.WholeRow
import Derived.Deep.CutRange
import Derived.Laws.CopyOwn
import Derived.Test.YtjeeghafachebaaGreatU1
import Derived.Deep.AppendLies
import Derived.Great.BuildSlice
import Derived.Test.YtjeeghafachebaaGreatU0
namespace Go.Proofs.YtjeeghafachebaaGreat
open Go.RowKit Go.Proofs.Tryz
section
variable (P : Program) (t : TypeId) (x y : BitVec 32) (w : World)
end
def B(x:BitVec 8):Value:=.int .u8 (x.toNat:Int)
section
variable {P : Program} (w : World)
end
theorem addr_add(b o n:Nat):(⟨b,o,none⟩:Addr).add n=⟨b,o+n,none⟩:=by
 unfold Addr.add
 split
 ·rename_i h;subst h;rfl
 rfl
theorem rO {P:Program} {ty:TypeId} {A:Addr} {v u:Value} {w:World}(hv:v.cells=#[v])(h1:v.oneCell'=true)(hs:∀w,(sizeOf ty).run P w=.ok 1 w)
  (hc:w.cell? A=some u) (hf:w.frozen? A=false):(Instr.storeAt ty (.pointer (some A)) v).run P w=.ok () (w.setCell A v):=by
 have h0:A.add 0=A:=by simp[Addr.add]
 have hst:(store (A.add 0) v).run P w=.ok () (w.setCell A v):=by
  rw[h0,run_store P w A v _ h1,hc];simp[hf]
 simp[Instr.storeAt,Instr.sureAddr,storeVar,hs,hv,storeCells,hst]
theorem bU {P:Program} {ops:Array Oper} {rest:List Oper} {o:Oper} {a:Act} {w:World} {Q:Exit->Act->World->Prop}(hgd:o.guard=none)(ty:TypeId)(x y:Operand)(ho:o.op=.store ty x y)
  (A:Addr) (v u:Value) (hx:a.eval x=.pointer (some A)) (hy:a.eval y=v) (hv:v.cells=#[v]) (h1:v.oneCell'=true) (hs:∀w,(sizeOf ty).run P w=.ok 1 w)
  (hc:w.cell? A=some u) (hf:w.frozen? A=false)
  (h:wpList P ops Q rest (a.put o.dst undef) (w.setCell A v)):wpList P ops Q (o::rest) a w:=
 wpList_plain hgd λ_ hK=>by
  unfold Oper.wp execOp;simp only[ho,hx,hy,Sem.run_bind,Sem.run_pure,Result.andThen_ok,rO hv h1 hs hc hf];exact hK _ _ h
theorem zm {P:Program} {ops:Array Oper} {rest:List Oper} {o:Oper} {a:Act} {w:World} {Q:Exit->Act->World->Prop}(hgd:o.guard=none)(ty:TypeId)(x y:Operand)(ho:o.op=.store ty x y)
  (g off:Nat) (cs:List Value) (hx:a.eval x=.pointer (some ⟨g,off,none⟩)) (hy:a.eval y=.agg cs.toArray)
  (t:TypeId) (old:Array Value) (hg:w.heap[g]? =some (.cells old t (0,0))) (hi:(P.info? ty).map (·.size)=some cs.length)
  (hfit:off+cs.length<=old.size) (h1:∀v∈cs,v.oneCell'=true)
  (h:wpList P ops Q rest (a.put o.dst undef) (w.setRow g (old.toList.take off++cs++old.toList.drop (off+cs.length)).toArray)):wpList P ops Q (o::rest) a w:=
 wpList_plain hgd λ_ hK=>by
  have hst:=run_storeCells_at P g off t cs 0 old w hg (by simpa using hfit) h1
  have hrun:(storeVar ty ⟨g,off,none⟩ (.agg cs.toArray)).run P w=.ok () (w.setRow g (old.toList.take off++cs++old.toList.drop (off+cs.length)).toArray):=by
   cases hq:P.info? ty with
   | none=>simp[hq]at hi
   | some i=>
    have hs:cs.length=i.size:=by simp[hq]at hi;omega
    simpa[storeVar,sizeOf,typeInfo,hq,Value.cells,hs]using hst
  unfold Oper.wp execOp;simp only[ho,hx,hy,Instr.storeAt,Instr.sureAddr,Sem.run_bind,Sem.run_pure,Result.andThen_ok,hrun];exact hK _ _ h
section
variable (P : Program) (t : TypeId) (x y : BitVec 8) (w : World)
end
end Go.Proofs.YtjeeghafachebaaGreat
namespace Go.Proofs.YtjeeghafachebaaGreat
open Go Go.RowKit Go.Proofs.Tryz
def gl(l:List (BitVec 8)):Nat->BitVec 8:=λi=>l.getD i 0
theorem below_draws {B:Nat} {a w:World}(h:Below B a w)(n:Nat):Below B a (w.drewN n):=h.trans ⟨rfl,rfl,rfl,bfx _,λ_ _=>rfl⟩
def bE(w:World)(x:Value)(e:Ending)(w':World):Prop:=e=.returned x/\Bw w w'
theorem bL(w:World)(b i:Nat)(v:Value):w.grownBy (w.setCell ⟨b,i,none⟩ v) (some b):=
 ⟨rfl,rfl,rfl,by simp[World.setCell],λk hk hne=>heap_setCell_other _ _ _ _ (λe=>hne (by rw[e]))⟩
theorem kQ {w w':World}(hB:Bw w w'):w.grownBy w' none:=⟨hB.os,hB.tape,hB.output,hB.size,λk hk _=>hB.block k hk⟩
theorem bf {a:Act} {s:Tmp} {x:Value}(h:a.eval (.tmp s)=x):a.tmps[s]?.getD undef=x:=by simpa[Act.eval]using h
def Own(w:World)(base:Nat)(e:TypeId)(v:Value)(xs:List Value):Prop:=w.ownsRow base e 1 v xs.length xs
theorem Own.form {w:World} {base:Nat} {e:TypeId} {v:Value} {xs:List Value}(h:Own w base e v xs):∃a c,v=.slice a xs.length c:=by
 rcases h.2 with⟨h1,h2⟩ | ⟨g,cap,cur,h1,_⟩
 ·exact⟨none,0,by rw[h1,h2]⟩
 exact⟨_,_,h1⟩
theorem Own.Rt {w:World} {base:Nat} {e:TypeId} {v:Value} {xs:List Value}(h:Own w base e v xs)(hn:0<xs.length):∃g c,v=.slice (some ⟨g,0,none⟩) xs.length c/\base<=g/\g<w.heap.size:=World.ownsRow.form h hn
theorem Own.cellAt {w:World} {base:Nat} {e:TypeId} {g c:Nat} {xs:List Value}(h:Own w base e (.slice (some ⟨g,0,none⟩) xs.length c) xs)(j:Nat)(hj:j<xs.length):w.cell? ⟨g,j,none⟩=xs[j]? :=
 World.ownsRow.cellAt h j (by omega)
theorem Own.nil(w:World)(base:Nat)(e:TypeId):Own w base e (.slice none 0 0) []:=World.ownsRow_nil w base e 1
theorem Own.kept {w w':World} {base:Nat} {e:TypeId} {v:Value} {xs:List Value}(h:Own w base e v xs) {row:Option Nat}(hg:w.grownBy w' row)(hne:v.ownBlock=none∨v.ownBlock≠row):Own w' base e v xs:=World.ownsRow.kept h hg hne
theorem Own.far {w w':World} {base:Nat} {e:TypeId} {v:Value} {xs:List Value}(h:Own w base e v xs)(hB:Bw w w'):Own w' base e v xs:=
 h.kept (kQ hB) (by cases hv:v.ownBlock <;> simp)
theorem Own.lt {w:World} {base:Nat} {e:TypeId} {v:Value} {xs:List Value}(h:Own w base e v xs) {k:Nat}(hk:v.ownBlock=some k):base<=k/\k<w.heap.size:=World.ownsRow.lt h k hk
theorem Own.mono {w:World} {base base':Nat} {e:TypeId} {v:Value} {xs:List Value}(h:Own w base e v xs)(hb:base'<=base):Own w base' e v xs:=by
 refine⟨h.1,?_⟩;rcases h.2 with h | ⟨g,cap,cur,h1,h2,h3⟩
 ·exact .inl h
 exact .inr ⟨g,cap,cur,h1,bgn hb h2,h3⟩
theorem y9 {T e:TypeId} {z:Value} {bytes:Nat}(hT:prog.underlying T=some (.slice e))(hE:(prog.info? e).map (λi=>(i.zero,i.size,i.bytes))=some (some z,1,bytes))(hzc:z.cells.size=1)
  {ops:Array Oper} {rest:List Oper} {o:Oper} {a:Act} {Q:Exit->Act->World->Prop} {w:World} (hgd:o.guard=none) (s x:Operand)
  (ho:o.op=.call { callee:=.builtin .append,args:=#[s,x],argTypes:=#[T,T] })
  (base:Nat) (v:Value) (xs:List Value) (hs:a.eval s=v) (hown:Own w base e v xs) (u:Value) (g:Nat) (hx:a.eval x=.slice (some ⟨g,0,none⟩) 1 1) (hu:w.cell? ⟨g,0,none⟩=some u) (h1:u.oneCell'=true)
  (hlen:xs.length+1<=1000) (hbase:base<=w.heap.size) (hby:bytes<=16)
  (h:∀v' w',Own w' base e v' (xs++[u])->w.grownBy w' v.ownBlock->(v'.ownBlock=v.ownBlock∨v'.ownBlock=some w.heap.size)->wpList prog ops Q rest (a.put o.dst v') w'):
  wpList prog ops Q (o::rest) a w:=by
 obtain⟨i,hi,hz0,hz1,hz2⟩:=info_parts hE;refine wpList_append_own_at _ hgd s x T ho base e i z 1 bytes hT hi hz0 hz1 hz2 hzc (by decide) v xs.length xs hs hown ⟨g,0,none⟩ 1 1 [u] hx rfl ?_ ?_ (by unfold maxLen;omega) ?_ hbase ?_
 ·intro j u' hj
  match j,hj with
  | 0,hj=>
   simp at hj;subst hj;simpa[Addr.add]using hu
 ·intro u' hu';simp at hu';subst hu';exact h1
 ·have:(xs.length+1)*bytes<=1000*16:=Nat.mul_le_mul hlen hby;omega
 intro v' w' k1 k2 _ k4;exact h v' w' (by simpa[Own]using k1) k2 k4
def strOf(m:List (BitVec 8)):ByteArray:=strOfNums (m.map λx=>(x.toNat:Int))
theorem KX {α β:Type} {f:α->β}(hf:∀x y,f x=f y->x=y):∀(l l':List α),l.map f=l'.map f->l=l'
 | [],[],_=>rfl
 | [],_::_,h=>by simp at h
 | _::_,[],h=>by simp at h
 | x::l,y::l',h=>by
  simp only[bgc,List.cons.injEq]at h;rw[hf _ _ h.1,KX hf l l' h.2]
theorem str_eq(m1 m2:List (BitVec 8)):((strOf m1).toList==(strOf m2).toList)=decide (m1=m2):=by
 rw[Bool.eq_iff_iff,beq_iff_eq,bf0];refine⟨λh=>?_,λh=>by rw[h]⟩
 rw[ByteArray.toList_eq,ByteArray.toList_eq]at h;simp only[strOf,strOfNums_data,List.map_map]at h;refine KX (λx y hxy=>?_) _ _ h;simp only[Function.comp,Int.toNat_natCast]at hxy;have:=congrArg UInt8.toNat hxy;simp at this;exact BitVec.eq_of_toNat_eq (by omega)
def Sv(m:List (BitVec 8)):Value:=.string (strOf m)
theorem BS(m:List (BitVec 8)):(strOf m).size=m.length:=by simp[strOf,strOfNums_size]
theorem BR(m:List (BitVec 8)):(strOf m).data=(m.map λx=>UInt8.ofNat x.toNat).toArray:=by
 simp[strOf,strOfNums]
theorem vR(w:World)(ty:TypeId)(a:List (BitVec 8)):(Builtin.len_ #[9] ty #[Sv a]).run prog w=.ok (.int .i64 (a.length:Int)) w:=by
 show(Builtin.len_ #[9] ty #[.string (strOf a)]).run prog w=_;rw[run_len_string w _ _ _ underlying9,BS];rfl
theorem xe(w:World)(a:List (BitVec 8))(i:Nat)(h:i<a.length):(Instr.index 9 (Sv a) (.int .i64 (i:Int))).run prog w=.ok (B (gl a i)) w:=by
 show(Instr.index 9 (.string (strOf a)) (.int .i64 (i:Int))).run prog w=_;rw[run_index_string w _ _ _ _ underlying9];have hs:=BS a;rw[dif_pos (by rw[hs];omega)]
 congr 1
 show Value.int .u8 _=Value.int .u8 _
 congr 1
 have e:∀(hi:i<(strOf a).size),((strOf a)[i]'hi)=UInt8.ofNat (gl a i).toNat:=by
  intro hi;have:((strOf a)[i]'hi)=(strOf a).data[i]'(by simpa using hi):=rfl
  rw[this];simp only[BR,List.getElem_toArray,List.getElem_map];simp[gl,h]
 have h2:=(gl a i).isLt;simp only[Int.toNat_natCast];rw[e];simp
theorem qZ(w:World)(a b:List (BitVec 8)):(binOp .eql 9 (Sv a) (Sv b)).run prog w=.ok (.bool (decide (a=b))) w:=by
 show Result.ok (Value.bool ((strOf a).toList==(strOf b).toList)) w=_;rw[str_eq]
theorem BL(w:World)(a b:List (BitVec 8)):(binOp .neq 9 (Sv a) (Sv b)).run prog w=.ok (.bool (!decide (a=b))) w:=by
 show Result.ok (Value.bool (!((strOf a).toList==(strOf b).toList))) w=_;rw[str_eq]
theorem BH {P:Program}(w:World)(op:BinOp)(t:TypeId)(o1 o2:Operand)(m:List (BitVec 8))(v:Value):(eqGuard op t o1 o2 (Sv m) v).run P w=.ok () w:=by
 unfold eqGuard Sv;cases op <;> rfl
theorem sw(w:World)(a:List (BitVec 8)):(binOp .eql 9 (Sv a) (.string ⟨#[]⟩)).run prog w=.ok (.bool (decide (a=[]))) w:=qZ w a []
attribute [go_sem] BH qZ BL sw
theorem FM(P:Program)(w:World)(a:Addr)(k:Mode)(m:List (BitVec 8)):(store a (Sv m) k).run P w=stored P w a (Sv m) k:=run_store P w a _ k rfl
attribute [go_sem] FM
theorem RG(s:ByteArray):∃m:List (BitVec 8),Value.string s=Sv m/\m.length=s.size:=by
 refine⟨s.data.toList.map λx=>BitVec.ofNat 8 x.toNat,?_,by simp⟩
 have:s.data=(strOf (s.data.toList.map λx=>BitVec.ofNat 8 x.toNat)).data:=by
  rw[BR,List.map_map];apply Array.ext';have:((λx:BitVec 8=>UInt8.ofNat x.toNat) ∘ λx:UInt8=>BitVec.ofNat 8 x.toNat)=id:=by
   funext x
   have:=x.toNat_lt;simp
  rw[this,List.map_id]
 have e:s=strOf (s.data.toList.map λx=>BitVec.ofNat 8 x.toNat):=by
  cases s
  cases h:strOf _ with
  | mk d=>
   rw[h]at this;simpa using this
 rw[Sv,<-e]
abbrev bg4:=@wp_region_lit
abbrev bg5:=@heap_alloc_new
abbrev bg6:=@wpList_store_row
end Go.Proofs.YtjeeghafachebaaGreat
