/- 2. -/
import Derived.Test.YtgfmbkoieacgoaaGreatDoorRows
import Derived.WalkSpells
import Derived.BigQuiet
import Derived.Deep.WholeRow
import Derived.Deep.CutRange
import Derived.Laws.CopyOwn
import Derived.Deep.AppendLies
import Derived.Great.BuildSlice
import Derived.Test.YtgfmbkoieacgoaaGreatDoorW1
set_option maxRecDepth 100000
namespace Go.Proofs.YtgfmbkoieacgoaaGreatDoor
open Go.RowKit Go.Proofs.Tryz
section
variable (P : Program) (t : TypeId) (x y : BitVec 32) (w : World)
end
def B(x:BitVec 8):Value:=.int .u8 (x.toNat:Int)
theorem B_oneCell(x:BitVec 8):(B x).oneCell'=true:=rfl
section
variable {P : Program} (w : World)
end
attribute [go_sem] B_oneCell
theorem addr_add(b o n:Nat):(⟨b,o,none⟩:Addr).add n=⟨b,o+n,none⟩:=by
 unfold Addr.add
 split
 ·rename_i h;subst h;rfl
 rfl
theorem run_storeAt_one {P:Program} {ty:TypeId} {A:Addr} {v u:Value} {w:World}(b:v.cells=#[v])(c:v.oneCell'=true)(d:∀w,(sizeOf ty).run P w=.ok 1 w)
  (e:w.cell? A=some u) (h:w.frozen? A=false):(Instr.storeAt ty (.pointer (some A)) v).run P w=.ok () (w.setCell A v):=by
 have j:A.add 0=A:=by simp[Addr.add]
 have a:(store (A.add 0) v).run P w=.ok () (w.setCell A v):=by
  rw[j,run_store P w A v _ c,e];simp[h]
 simp[Instr.storeAt,Instr.sureAddr,storeVar,d,b,storeCells,a]
theorem wpList_store1 {P:Program} {c:Array Oper} {b:List Oper} {o:Oper} {a:Act} {w:World} {Q:Exit->Act->World->Prop}(d:o.guard=none)(ty:TypeId)(x y:Operand)(e:o.op=.store ty x y)
  (A:Addr) (v u:Value) (j:a.eval x=.pointer (some A)) (k:a.eval y=v) (l:v.cells=#[v]) (m:v.oneCell'=true) (n:∀w,(sizeOf ty).run P w=.ok 1 w)
  (p:w.cell? A=some u) (q:w.frozen? A=false)
  (h:wpList P c Q b (a.put o.dst undef) (w.setCell A v)):wpList P c Q (o::b) a w:=
 wpList_plain d λ_ r=>by
  unfold Oper.wp execOp;simp only[e,j,k,Sem.run_bind,Sem.run_pure,Result.andThen_ok,run_storeAt_one l m n p q];exact r _ _ h
theorem wpList_store_at {P:Program} {d:Array Oper} {c:List Oper} {o:Oper} {a:Act} {w:World} {Q:Exit->Act->World->Prop}(k:o.guard=none)(ty:TypeId)(x y:Operand)(n:o.op=.store ty x y)
  (g off:Nat) (b:List Value) (p:a.eval x=.pointer (some ⟨g,off,none⟩)) (q:a.eval y=.agg b.toArray)
  (t:TypeId) (old:Array Value) (r:w.heap[g]? =some (.cells old t (0,0))) (m:(P.info? ty).map (·.size)=some b.length)
  (e:off+b.length<=old.size) (s:∀v∈b,v.oneCell'=true)
  (h:wpList P d Q c (a.put o.dst undef) (w.setRow g (old.toList.take off++b++old.toList.drop (off+b.length)).toArray)):wpList P d Q (o::c) a w:=
 wpList_plain k λ_ u=>by
  have l:=run_storeCells_at P g off t b 0 old w r (by simpa using e) s
  have j:(storeVar ty ⟨g,off,none⟩ (.agg b.toArray)).run P w=.ok () (w.setRow g (old.toList.take off++b++old.toList.drop (off+b.length)).toArray):=by
   cases hq:P.info? ty with
   | none=>simp[hq]at m
   | some i=>
    have z:b.length=i.size:=by simp[hq]at m;omega
    simpa[storeVar,sizeOf,typeInfo,hq,Value.cells,z]using l
  unfold Oper.wp execOp;simp only[n,p,q,Instr.storeAt,Instr.sureAddr,Sem.run_bind,Sem.run_pure,Result.andThen_ok,j];exact u _ _ h
section
variable (P : Program) (t : TypeId) (x y : BitVec 8) (w : World)
theorem ofInt_toNat8(x:BitVec 8):BitVec.ofInt 8 (x.toNat:Int)=x:=by
 apply BitVec.eq_of_toNat_eq;simp
theorem wrap_toNat8(x:BitVec 8):IntKind.u8.wrap (x.toNat:Int)=x.toNat:=by
 have:=x.isLt;simp[IntKind.wrap,IntKind.bits,IntKind.signed];omega
theorem bits_or8:bits .or .u8 (x.toNat:Int) (y.toNat:Int)=(x ||| y).toNat:=by
 show IntKind.u8.wrap ((BitVec.ofInt 8 (x.toNat:Int) ||| BitVec.ofInt 8 (y.toNat:Int)).toNat:Int)=_
 rw[ofInt_toNat8,ofInt_toNat8,wrap_toNat8]
theorem run_or_B:(binOp .or t (B x) (B y)).run P w=.ok (B (x ||| y)) w:=by
 simp only[B,go_sem];rw[bits_or8];rfl
end
attribute [go_sem] run_or_B
theorem run_slice_sl_h {P:Program}(T e:Nat)(c:P.underlying T=some (.slice e))(d:∀w,(sizeOf e).run P w=.ok 1 w)(a:Option Addr)(n b h:Nat)(j:h<=b)(w:World):
  (Instr.slice T (.slice a n b) none (some (.int .i64 (h:Int))) none).run P w=.ok (.slice a h b) w:=by
 cases a with
 | none=>simp[Instr.slice,run_underlying c,Instr.sliceBounds,run_sliceBound,d,j]
 | some a=>simp[Instr.slice,run_underlying c,Instr.sliceBounds,run_sliceBound,d,j,Addr.add]
theorem run_slice_sl_any {P:Program}(T e:Nat)(c:P.underlying T=some (.slice e))(d:∀w,(sizeOf e).run P w=.ok 1 w)(a:Option Addr)(n b l:Nat)(h:l<=n)(w:World):
  (Instr.slice T (.slice a n b) (some (.int .i64 (l:Int))) none none).run P w=.ok (.slice (if b=l then a else a.map (·.add l)) (n-l) (b-l)) w:=by
 simp[Instr.slice,run_underlying c,Instr.sliceBounds,run_sliceBound,d,h]
open Go Go.RowKit Go.Proofs.Tryz
def gl(l:List (BitVec 8)):Nat->BitVec 8:=λi=>l.getD i 0
theorem below_draws {B:Nat} {a w:World}(h:Below B a w)(n:Nat):Below B a (w.drewN n):=h.trans ⟨rfl,rfl,rfl,bfx _,λ_ _=>rfl⟩
def Below0(w:World)(x:Value)(e:Ending)(w':World):Prop:=e=.returned x/\Bw w w'
theorem grown_trans {w d e:World} {b:Nat}(h:w.grownBy d (some b))(a:d.grownBy e (some b)):w.grownBy e (some b):=
 ⟨a.os.trans h.os,a.tape.trans h.tape,a.output.trans h.output,bgn h.size a.size,λk j c=>(a.block k (Nat.lt_of_lt_of_le j h.size) c).trans (h.block k j c)⟩
theorem grown_setCell(w:World)(b i:Nat)(v:Value):w.grownBy (w.setCell ⟨b,i,none⟩ v) (some b):=
 ⟨rfl,rfl,rfl,by simp[World.setCell],λk c a=>heap_setCell_other _ _ _ _ (λe=>a (by rw[e]))⟩
def SrcP(w:World)(a:Option Addr)(n:Nat)(m:List (BitVec 8)):Prop:=
 n=0∨∃ab off,a=some ⟨ab,off,none⟩/\∀i<n,w.cell? ⟨ab,off+i,none⟩=some (B (gl m i))
theorem SrcP.below {w w':World} {a:Option Addr} {n:Nat} {m:List (BitVec 8)}(h:SrcP w a n m)(e:Bw w w'):SrcP w' a n m:=by
 rcases h with h | ⟨b,off,j,c⟩
 ·exact .inl h
 exact .inr ⟨b,off,j,λi d=>(e.cell (p:=⟨b,off+i,none⟩) (block_lt_of_cell (c i d))).trans (c i d)⟩
theorem below_own {B:Nat} {c w w':World} {b:Nat}(d:Below B c w)(h:B<=b)(e:B<=w.heap.size)(a:w.grownBy w' (some b)):Below B c w':=
 d.trans ⟨a.os,a.tape,a.output,a.size,λk j=>a.block k (by omega) (by simp;omega)⟩
theorem grown_none_below {w w':World}(a:Bw w w'):w.grownBy w' none:=⟨a.os,a.tape,a.output,a.size,λk b _=>a.block k b⟩
theorem ev_of {a:Act} {s:Tmp} {x:Value}(h:a.eval (.tmp s)=x):a.tmps[s]?.getD undef=x:=by simpa[Act.eval]using h
def Own(w:World)(base:Nat)(e:TypeId)(v:Value)(xs:List Value):Prop:=w.ownsRow base e 1 v xs.length xs
theorem Own.form {w:World} {b:Nat} {e:TypeId} {v:Value} {xs:List Value}(h:Own w b e v xs):∃a c,v=.slice a xs.length c:=by
 rcases h.2 with⟨d,j⟩ | ⟨g,k,l,d,_⟩
 ·exact⟨none,0,by rw[d,j]⟩
 exact⟨_,_,d⟩
theorem Own.cellAt {w:World} {a:Nat} {e:TypeId} {g c:Nat} {xs:List Value}(h:Own w a e (.slice (some ⟨g,0,none⟩) xs.length c) xs)(j:Nat)(b:j<xs.length):w.cell? ⟨g,j,none⟩=xs[j]? :=
 World.ownsRow.cellAt h j (by omega)
theorem Own.nil(w:World)(a:Nat)(e:TypeId):Own w a e (.slice none 0 0) []:=World.ownsRow_nil w a e 1
theorem Own.kept {w w':World} {a:Nat} {e:TypeId} {v:Value} {xs:List Value}(h:Own w a e v xs) {row:Option Nat}(c:w.grownBy w' row)(b:v.ownBlock=none∨v.ownBlock≠row):Own w' a e v xs:=World.ownsRow.kept h c b
theorem Own.far {w w':World} {a:Nat} {e:TypeId} {v:Value} {xs:List Value}(h:Own w a e v xs)(b:Bw w w'):Own w' a e v xs:=
 h.kept (grown_none_below b) (by cases c:v.ownBlock <;> simp)
theorem Own.lt {w:World} {a:Nat} {e:TypeId} {v:Value} {xs:List Value}(h:Own w a e v xs) {k:Nat}(b:v.ownBlock=some k):a<=k/\k<w.heap.size:=World.ownsRow.lt h k b
theorem Own.mono {w:World} {b a:Nat} {e:TypeId} {v:Value} {xs:List Value}(h:Own w b e v xs)(j:a<=b):Own w a e v xs:=by
 refine⟨h.1,?_⟩;rcases h.2 with h | ⟨g,c,d,k,l,m⟩
 ·exact .inl h
 exact .inr ⟨g,c,d,k,bgn j l,m⟩
theorem Own.lit(w:World)(b:Array Value)(e:TypeId) {a:Nat}(c:a<=w.heap.size)(d:b.size<=1000):
  Own (w.alloc (.cells b e)) a e (.slice (some ⟨w.heap.size,0,none⟩) b.size b.size) b.toList:=by
 have:=World.ownsRow_lit (size:=1) (e:=e) w b b.size c (by unfold maxLen;omega) (by omega)
 simpa[Own]using this
theorem wpList_push {T e:TypeId} {z:Value} {bytes:Nat}(J:prog.underlying T=some (.slice e))(K:(prog.info? e).map (λi=>(i.zero,i.size,i.bytes))=some (some z,1,bytes))(r:z.cells.size=1)
  {l:Array Oper} {c:List Oper} {o:Oper} {a:Act} {Q:Exit->Act->World->Prop} {w:World} (y:o.guard=none) (s x:Operand)
  (L:o.op=.call { callee:=.builtin .append,args:=#[s,x],argTypes:=#[T,T] })
  (b:Nat) (v:Value) (xs:List Value) (M:a.eval s=v) (m:Own w b e v xs) (u:Value) (g:Nat) (N:a.eval x=.slice (some ⟨g,0,none⟩) 1 1) (O:w.cell? ⟨g,0,none⟩=some u) (R:u.oneCell'=true)
  (n:xs.length+1<=1000) (d:b<=w.heap.size) (D:bytes<=16)
  (h:∀k w',Own w' b e k (xs++[u])->w.grownBy w' v.ownBlock->(k.ownBlock=v.ownBlock∨k.ownBlock=some w.heap.size)->wpList prog l Q c (a.put o.dst k) w'):
  wpList prog l Q (o::c) a w:=by
 obtain⟨i,S,E,F,I⟩:=info_parts K;refine wpList_append_own_at _ y s x T L b e i z 1 bytes J S E F I r (by decide) v xs.length xs M m ⟨g,0,none⟩ 1 1 [u] N rfl ?_ ?_ (by unfold maxLen;omega) ?_ d ?_
 ·intro j U q
  match j,q with
  | 0,q=>
   simp at q;subst q;simpa[Addr.add]using O
 ·intro U p;simp at p;subst p;exact R
 ·have:(xs.length+1)*bytes<=1000*16:=Nat.mul_le_mul n D;omega
 intro k w' Y Z _ k4;exact h k w' (by simpa[Own]using Y) Z k4
theorem info_u8:∃i,prog.info? 5=some i/\i.zero=some (.int .u8 0)/\i.size=1/\i.bytes=1:=by
 have h:(prog.info? 5).map (λi=>(i.zero,i.size,i.bytes))=some (some (.int .u8 0),1,1):=by kernel_rfl
 cases hq:prog.info? 5 with
 | none=>simp[hq]at h
 | some i=>
  simp[hq]at h;exact⟨i,rfl,h.1,h.2.1,h.2.2⟩
def strOf(m:List (BitVec 8)):ByteArray:=strOfNums (m.map λx=>(x.toNat:Int))
theorem run_conv_str(w:World)(a:Option Addr)(c:Nat)(m:List (BitVec 8))(h:SrcP w a m.length m):(convert 43 9 (.slice a m.length c)).run prog w=.ok (.string (strOf m)) w:=by
 have l:m=[]->∀b off c,(convert 43 9 (.slice (some ⟨b,off,none⟩) m.length c)).run prog w=.ok (.string (strOf m)) w:=λd b off c=>by
  subst d;exact run_convert_bytes_arg w _ _ underlying43 underlying5 b off 0 c [] rfl (λi e=>by omega) _ underlying9
 rcases h with h | ⟨j,off,rfl,k⟩
 ·have d:m=[]:=bg3 h
  cases a with
  | none=>
   subst d;exact run_convert_bytes_nil w _ _ underlying43 underlying5 _ _ _ underlying9
  | some a=>
   subst d;rw[run_convert_bytes_string w _ _ _ _ _ _ underlying43 underlying5 underlying9];simp[Conv.bytesToString];rfl
 refine run_convert_bytes_arg w _ _ underlying43 underlying5 j off m.length c _ (by simp) (λi e=>?_) _ underlying9
 rw[k i e];simp[B,gl,e]
theorem map_inj {α β:Type} {f:α->β}(b:∀x y,f x=f y->x=y):∀(l a:List α),l.map f=a.map f->l=a
 | [],[],_=>rfl
 | [],_::_,h=>by simp at h
 | _::_,[],h=>by simp at h
 | x::l,y::a,h=>by
  simp only[bgc,List.cons.injEq]at h;rw[b _ _ h.1,map_inj b l a h.2]
theorem str_eq(b c:List (BitVec 8)):((strOf b).toList==(strOf c).toList)=decide (b=c):=by
 rw[Bool.eq_iff_iff,beq_iff_eq,bf0];refine⟨λh=>?_,λh=>by rw[h]⟩
 rw[ByteArray.toList_eq,ByteArray.toList_eq]at h;simp only[strOf,strOfNums_data,List.map_map]at h;refine map_inj (λx y a=>?_) _ _ h;simp only[Function.comp,Int.toNat_natCast]at a;have:=congrArg UInt8.toNat a;simp at this;exact BitVec.eq_of_toNat_eq (by omega)
def Sv(m:List (BitVec 8)):Value:=.string (strOf m)
theorem strOf_size(m:List (BitVec 8)):(strOf m).size=m.length:=by simp[strOf,strOfNums_size]
theorem strOf_data(m:List (BitVec 8)):(strOf m).data=(m.map λx=>UInt8.ofNat x.toNat).toArray:=by
 simp[strOf,strOfNums]
theorem strOf_append(a b:List (BitVec 8)):strOf a++strOf b=strOf (a++b):=by
 have:(strOf a++strOf b).data=(strOf (a++b)).data:=by
  rw[ByteArray.data_append,strOf_data,strOf_data,strOf_data];simp
 cases h1:strOf a++strOf b
 cases h2:strOf (a++b)
 rw[h1,h2]at this;simpa using this
theorem run_add_Sv(w:World)(a b:List (BitVec 8))(h:a.length+b.length<=1048576):(binOp .add 9 (Sv a) (Sv b)).run prog w=.ok (Sv (a++b)) w:=by
 show(Op.stringOp .add (strOf a) (strOf b)).run prog w=_;rw[run_string_add_sum w _ _ (by rw[strOf_size,strOf_size];omega),strOf_append]
 rfl
theorem run_len_Sv(w:World)(ty:TypeId)(a:List (BitVec 8)):(Builtin.len_ #[9] ty #[Sv a]).run prog w=.ok (.int .i64 (a.length:Int)) w:=by
 show(Builtin.len_ #[9] ty #[.string (strOf a)]).run prog w=_;rw[run_len_string w _ _ _ underlying9,strOf_size];rfl
theorem run_index_Sv(w:World)(a:List (BitVec 8))(i:Nat)(h:i<a.length):(Instr.index 9 (Sv a) (.int .i64 (i:Int))).run prog w=.ok (B (gl a i)) w:=by
 show(Instr.index 9 (.string (strOf a)) (.int .i64 (i:Int))).run prog w=_;rw[run_index_string w _ _ _ _ underlying9];have c:=strOf_size a;rw[dif_pos (by rw[c];omega)]
 congr 1
 show Value.int .u8 _=Value.int .u8 _
 congr 1
 have e:∀(b:i<(strOf a).size),((strOf a)[i]'b)=UInt8.ofNat (gl a i).toNat:=by
  intro b;have:((strOf a)[i]'b)=(strOf a).data[i]'(by simpa using b):=rfl
  rw[this];simp only[strOf_data,List.getElem_toArray,List.getElem_map];simp[gl,h]
 have d:=(gl a i).isLt;simp only[Int.toNat_natCast];rw[e];simp
theorem run_slice1_B {d:Array Oper} {b:List Oper} {o:Oper} {a:Act} {w:World} {Q:Exit->Act->World->Prop}(j:o.guard=none)(y:Operand)(k:o.op=.buildSlice 43 1 #[(0,y)])(x:BitVec 8)(l:a.eval y=B x)
  (h:wpList prog d Q b (a.put o.dst (.slice (some ⟨w.heap.size,0,none⟩) 1 1)) (w.alloc (.cells #[B x] 5))):wpList prog d Q (o::b) a w:=by
 have m:Instr.fill (λi=>some (i*1,1)) ((Array.range (1*1)).map ((Value.int .u8 0).cells[· % (Value.int .u8 0).cells.size]!)) [(0,B x)]=some #[B x]:=by kernel_rfl
 obtain⟨i,n,e,c,p⟩:=info_u8;refine wpList_buildSlice j 43 5 1 _ k #[B x] i _ underlying43 n e (by rw[c];decide) (by rw[c];decide) ?_ h
 rw[c];simp only[bgb,bgc,bge,l];exact m
/-- A string as bytes: a new row, its bytes ahead of some spare noughts. -/
theorem conv_bytes(w:World)(m:List (BitVec 8)):∃c w',(convert 9 43 (Sv m)).run prog w=.ok (.slice (some ⟨w.heap.size,0,none⟩) m.length c) w'/\Bw w w'/\
  ∀i<m.length,w'.cell? ⟨w.heap.size,i,none⟩=some (B (gl m i)):=by
 have h:=run_bytes_of_string (P:=prog) w 9 43 5 (strOf m) underlying9 underlying43 underlying5;rw[strOf_size]at h;refine⟨_,_,h,((Below.refl _ w).drew).alloc (bfx _) _,λi a=>?_⟩;have b:i<(strOf m).data.size:=by rw[strOf_data];simpa using a
 have e:w.heap.size=w.drew.heap.size:=rfl;rw[e,World.cell?_alloc_mark,bytesRow_at _ _ _ b];simp only[strOf_data,List.getElem_toArray,List.getElem_map];have:=(gl m i).isLt;simp only[B,gl,List.getD_eq_getElem?_getD,bfs a,Option.getD_some]at this ⊢
 congr 2
 simp
theorem run_eql_Sv(w:World)(a b:List (BitVec 8)):(binOp .eql 9 (Sv a) (Sv b)).run prog w=.ok (.bool (decide (a=b))) w:=by
 show Result.ok (Value.bool ((strOf a).toList==(strOf b).toList)) w=_;rw[str_eq]
theorem run_neq_Sv(w:World)(a b:List (BitVec 8)):(binOp .neq 9 (Sv a) (Sv b)).run prog w=.ok (.bool (!decide (a=b))) w:=by
 show Result.ok (Value.bool (!((strOf a).toList==(strOf b).toList))) w=_;rw[str_eq]
theorem run_eqGuard_Sv {P:Program}(w:World)(a:BinOp)(t:TypeId)(b c:Operand)(m:List (BitVec 8))(v:Value):(eqGuard a t b c (Sv m) v).run P w=.ok () w:=by
 unfold eqGuard Sv;cases a <;> rfl
theorem run_eql_Sv0(w:World)(a:List (BitVec 8)):(binOp .eql 9 (Sv a) (.string ⟨#[]⟩)).run prog w=.ok (.bool (decide (a=[]))) w:=run_eql_Sv w a []
attribute [go_sem] run_eqGuard_Sv run_eql_Sv run_neq_Sv run_eql_Sv0
theorem run_store_Sv(P:Program)(w:World)(a:Addr)(k:Mode)(m:List (BitVec 8)):(store a (Sv m) k).run P w=stored P w a (Sv m) k:=run_store P w a _ k rfl
theorem run_storeCells_Sv(P:Program)(w:World)(a:Addr)(m:List (BitVec 8)):(storeCells a [Sv m]).run P w=stored P w a (Sv m) .plain:=by
 have:a.add 0=a:=by simp[Addr.add]
 simp only[storeCells,Sem.run_bind,this,run_store_Sv];cases stored P w a (Sv m) .plain <;> rfl
attribute [go_sem] run_store_Sv run_storeCells_Sv
theorem sv_of(s:ByteArray):∃m:List (BitVec 8),Value.string s=Sv m/\m.length=s.size:=by
 refine⟨s.data.toList.map λx=>BitVec.ofNat 8 x.toNat,?_,by simp⟩
 have:s.data=(strOf (s.data.toList.map λx=>BitVec.ofNat 8 x.toNat)).data:=by
  rw[strOf_data,List.map_map];apply Array.ext';have:((λx:BitVec 8=>UInt8.ofNat x.toNat) ∘ λx:UInt8=>BitVec.ofNat 8 x.toNat)=id:=by
   funext x
   have:=x.toNat_lt;simp
  rw[this,List.map_id]
 have e:s=strOf (s.data.toList.map λx=>BitVec.ofNat 8 x.toNat):=by
  cases s
  cases h:strOf _ with
  | mk d=>
   rw[h]at this;simpa using this
 rw[Sv,<-e]
open Go.RowKit Go.Proofs.Tryz
def wordF:Nat->Nat->List (BitVec 8)
 | 0,_=>[]
 | n+1,w=>if w<128 then [BitVec.ofNat 8 w]else BitVec.ofNat 8 (128+w % 128)::wordF n (w / 128)
def wordL(w:Nat):List (BitVec 8):=wordF 10 w
theorem wordF_length:∀n w,(wordF n w).length<=n
 | 0,_=>by simp[wordF]
 | n+1,w=>by
  have:=wordF_length n (w / 128);rw[wordF]
  split
  ·simp
  simp;omega
theorem wordL_length(w:Nat):(wordL w).length<=10:=wordF_length 10 w
def numberL(n:Int):List (BitVec 8):=wordL n.toNat
def zig(n:Int):Nat:=if 0<=n then 2*n.toNat else 2*(-(n+1)).toNat+1
def signedL(n:Int):List (BitVec 8):=wordL (zig n)
def textL(b:List (BitVec 8)):List (BitVec 8):=wordL b.length++b
def zag(w:Nat):Int:=if w % 2=1 then -((w / 2:Nat):Int)-1 else ((w / 2:Nat):Int)
theorem zig_lt(n:Int)(a: -9223372036854775808<=n)(b:n<9223372036854775808):zig n<18446744073709551616:=by
 unfold zig
 split <;> omega
def rdW:Nat->Nat->Nat->List (BitVec 8)->Nat × Nat × List (BitVec 8)
 | 0,_,_,_=>(11,0,[])
 | _+1,_,_,[]=>(10,0,[])
 | n+1,i,acc,c::r=>
  if (c.toNat=0/\0<i)∨(i=9/\1<c.toNat)then (11,0,[])
  else if c.toNat<128 then (0,acc+c.toNat % 128*128 ^ i,r)else rdW n (i+1) (acc+c.toNat % 128*128 ^ i) r
theorem p9:(128:Nat) ^ 9=9223372036854775808:=by decide
theorem rdW_back:∀(n i a v:Nat) (l r:List (BitVec 8)),i+n=10->a<128 ^ i->rdW n i a l=(0,v,r)->∃w,v=a+w*128 ^ i/\l=wordF n w++r/\(0<i->0<w)/\v<18446744073709551616
 | 0,_,_,_,_,_,_,_,h=>by simp[rdW]at h
 | n+1,i,a,v,[],r,_,_,h=>by simp[rdW]at h
 | n+1,i,a,v,c::l,r,hi,ha,h=>by
  have E:=c.isLt;rw[rdW]at h
  split at h
  ·simp at h
  rename_i F;have j:0<128 ^ i:=Nat.pow_pos (by decide)
  split at h
  ·rename_i b;simp only[Prod.mk.injEq,true_and]at h;obtain⟨rfl,rfl⟩:=h;refine⟨c.toNat,by rw[Nat.mod_eq_of_lt b],?_,λI=>by omega,?_⟩
   ·rw[wordF,if_pos b];simp
   rw[Nat.mod_eq_of_lt b];rcases bg1 i 9 with m | m
   ·have k:128 ^ (i+1)<=128 ^ 9:=Nat.pow_le_pow_right (by decide) (by omega)
    have d:c.toNat*128 ^ i<=127*128 ^ i:=Nat.mul_le_mul_right _ (by omega)
    rw[Nat.pow_succ]at k;rw[p9]at k;omega
   have:i=9:=by omega
   subst this;have d:c.toNat*128 ^ 9<=1*128 ^ 9:=Nat.mul_le_mul_right _ (by omega)
   rw[p9]at ha d ⊢;omega
  rename_i o;have p:i<9:=by omega
  have e:a+c.toNat % 128*128 ^ i<128 ^ (i+1):=by
   have d:c.toNat % 128*128 ^ i<=127*128 ^ i:=Nat.mul_le_mul_right _ (by omega)
   rw[Nat.pow_succ];omega
  obtain⟨w,q,s,u,x⟩:=rdW_back n (i+1) _ v l r (by omega) e h
  have y:=u (by omega)
  refine⟨c.toNat % 128+128*w,?_,?_,λ_=>by omega,x⟩
  ·rw[q,Nat.pow_succ,Nat.add_mul,Nat.add_assoc]
   congr 2
   rw[Nat.mul_comm 128 w,Nat.mul_assoc,Nat.mul_comm 128]
  rw[wordF,if_neg (by omega),s]
  have z:(c.toNat % 128+128*w) % 128=c.toNat % 128:=by omega
  have D:(c.toNat % 128+128*w) / 128=w:=by omega
  rw[z,D,show 128+c.toNat % 128=c.toNat by omega]
  simp
theorem rdW_backL(v:Nat)(l r:List (BitVec 8))(h:rdW 10 0 0 l=(0,v,r)):l=wordL v++r/\v<18446744073709551616:=by
 obtain⟨w,a,b,_,c⟩:=rdW_back 10 0 0 v l r rfl (by decide) h
 have:v=w:=by simpa using a
 subst this;exact⟨b,c⟩
structure TapeL where
 s:List (BitVec 8)
 e:Int
def TapeL.fail(t:TapeL)(e:Int):TapeL:=if t.e=0/\e≠0 then ⟨[],e⟩else t
def TapeL.word(t:TapeL):Nat × TapeL:=
 if t.e≠0 then (0,t)else if (rdW 10 0 0 t.s).1=0 then ((rdW 10 0 0 t.s).2.1,⟨(rdW 10 0 0 t.s).2.2,0⟩)else (0,t.fail (rdW 10 0 0 t.s).1)
def TapeL.number(t:TapeL)(most:Int):Int × TapeL:=
 if 9223372036854775807<t.word.1 then (0,t.word.2.fail 11)else if t.word.2.e=0/\most<t.word.1 then (0,t.word.2.fail 12)else (t.word.1,t.word.2)
def TapeL.signed(t:TapeL):Int × TapeL:=(zag t.word.1,t.word.2)
def TapeL.fixed(t:TapeL)(n:Int):List (BitVec 8) × TapeL:=
 if t.e≠0 then ([],t)else if n<0 then ([],t.fail 2)else if (t.s.length:Int)<n then ([],t.fail 10)else (t.s.take n.toNat,⟨t.s.drop n.toNat,t.e⟩)
def TapeL.text(t:TapeL)(most:Int):List (BitVec 8) × TapeL:=
 if (t.number 9223372036854775807).2.e=0/\most<(t.number 9223372036854775807).1 then ((t.number 9223372036854775807).2.fail 12).fixed (t.number 9223372036854775807).1
 else (t.number 9223372036854775807).2.fixed (t.number 9223372036854775807).1
def TapeL.done(t:TapeL):Int:=if t.e=0/\t.s≠[]then 13 else t.e
theorem TapeL.word_lt(t:TapeL):t.word.1<18446744073709551616:=by
 unfold TapeL.word
 split
 ·simp
 split
 ·rename_i h;obtain⟨k,v,r,a⟩:∃k v r,rdW 10 0 0 t.s=(k,v,r):=⟨_,_,_,rfl⟩;rw[a]at h ⊢;obtain rfl:k=0:=h;exact(rdW_backL _ _ _ a).2
 simp
abbrev bg4:=@wp_region_lit
abbrev bg5:=@heap_alloc_new
abbrev bg6:=@wpList_store_row
open Go.RowKit Go.Proofs.Tryz
theorem wrapU64(n:Nat)(h:n<18446744073709551616):IntKind.u64.wrap (n:Int)=n:=IntWalk.u64_in _ (by omega)
theorem run_conv_i64_u64n(w:World)(n:Nat)(h:n<9223372036854775808):(convert 3 145 (.int .i64 (n:Int))).run prog w=.ok (.int .u64 (n:Int)) w:=by
 simp[convert,Conv.intToInt,run_underlying underlying3,run_underlying underlying145,wrapU64 n (by omega)]
open Go.RowKit Go.Proofs.Tryz
theorem grown_refl(w:World)(b:Option Nat):w.grownBy w b:=⟨rfl,rfl,rfl,bfx _,λ_ _ _=>rfl⟩
def badB(i c:Nat):Bool:=decide ((c=0/\0<i)∨(i=9/\1<c))
theorem rdW_cons(n i a:Nat)(c:BitVec 8)(r:List (BitVec 8)):rdW (n+1) i a (c::r)=
  if badB i c.toNat then (11,0,[])else if c.toNat<128 then (0,a+c.toNat % 128*128 ^ i,r)else rdW n (i+1) (a+c.toNat % 128*128 ^ i) r:=by
 simp only[rdW,badB,bf0]
theorem tapeWord_ok {t:TapeL} {v:Nat} {r:List (BitVec 8)}(a:t.e=0)(h:rdW 10 0 0 t.s=(0,v,r)):t.word=(v,⟨r,0⟩):=by
 rw[TapeL.word,if_neg (by simp[a]),h,if_pos rfl]
theorem run_conv_u64_i64n(w:World)(n:Nat)(h:n<9223372036854775808):(convert 145 3 (.int .u64 (n:Int))).run prog w=.ok (.int .i64 (n:Int)) w:=by
 have:IntKind.i64.wrap (n:Int)=n:=IntWalk.i64_in _ (by omega)
 simp[convert,Conv.intToInt,run_underlying underlying3,run_underlying underlying145,this]
end Go.Proofs.YtgfmbkoieacgoaaGreatDoor
