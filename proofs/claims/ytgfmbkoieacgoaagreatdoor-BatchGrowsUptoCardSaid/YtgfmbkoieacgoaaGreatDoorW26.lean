/- 26. -/
import Derived.Test.YtgfmbkoieacgoaaGreatDoorW12
import Derived.Test.YtgfmbkoieacgoaaGreatDoorW18
import Derived.Test.YtgfmbkoieacgoaaGreatDoorW25
set_option maxRecDepth 100000
namespace Go.Proofs.YtgfmbkoieacgoaaGreatDoor
open Go Go.RowKit Go.Proofs.Tryz
theorem yQ(w:World)(l:List (BitVec 8))(o:l.length<=1000000)(p:lL w):Calls prog 113 #[Sv l] w (Below0 w (.int .i64 (numL l))):=by
 have d:(⟨(lvB l).toArray⟩:ByteArray).size<=1000000:=by simpa[ByteArray.size,lvB]using o
 have a:numL l=match Lib.atoiAll (lvB l)with | .ok v=>v | _=>0:=rfl
 cases h:Lib.atoiAll (lvB l)with
 | ok v=>
  have c:=Lh (Tryz.strconv_Atoi_ok ⟨(lvB l).toArray⟩ (by omega) v h w)
  rw[<-Sv_lv]at c;rw[a,h];clear h a d o;go_enter func113,ntmps113;go_wp2_with fail;refine c.out.mono ?_;rintro e q ⟨rfl,u⟩;have j:Hid (Bw w q):=by
   rcases u with rfl | ⟨t,rfl⟩
   ·exact Below.refl _ _
   exact Lib.bytesWorld_below w _ t
  clear u;dsimp only;go_wp2_with fail;go_ret;exact⟨rfl,j.out⟩
 | «syntax»=>
  obtain⟨r,k,m⟩:=p 2 (.inl rfl);have c:=Lh (Tryz.strconv_Atoi_syntax ⟨(lvB l).toArray⟩ (by omega) h r w k m)
  rw[<-Sv_lv]at c;rw[a,h];clear h a d o k m p;go_enter func113,ntmps113;go_wp2_with fail;refine c.out.mono ?_;rintro e q ⟨N,rfl,s,b,n⟩;have j:=Lh n;clear s b n;dsimp only;go_wp2_with fail;go_ret;exact⟨rfl,j.out⟩
 | range=>
  obtain⟨r,k,m⟩:=p 3 (.inr rfl);have c:=Lh (Tryz.strconv_Atoi_range ⟨(lvB l).toArray⟩ (by omega) h r w k m)
  rw[<-Sv_lv]at c;rw[a,h];clear h a d o k m p;go_enter func113,ntmps113;go_wp2_with fail;refine c.out.mono ?_;rintro e q ⟨N,rfl,s,b,n⟩;have j:=Lh n;clear s b n;dsimp only;go_wp2_with fail;go_ret;exact⟨rfl,j.out⟩
def wY(s:List (BitVec 8)):List (BitVec 8) × List (BitVec 8):=(bvL (Lib.cut (lvB s) [32,35]).1,bvL (Lib.cut (lvB s) [32,35]).2.1)
theorem S9(s:List (BitVec 8)):(wY s).1.length<=s.length/\(wY s).2.length<=s.length:=by
 have a:∀l:List UInt8,(bvL l).length=l.length:=λl=>by simp[bvL]
 have b:=lvB_length s;unfold wY Lib.cut
 split
 ·simp only[a,bga,bgx];omega
 simp only[a];exact⟨by omega,by simp⟩
theorem PZ(w:World)(s:List (BitVec 8))(l:s.length<=1000000)(b:yP w):
  Calls prog 111 #[Sv s,.string ⟨#[32,35]⟩] w λe w'=>(∃z,e=.returned (.tuple #[Sv (wY s).1,Sv (wY s).2,.bool z]))/\∃n,w'=w.drewN n:=by
 obtain⟨m,c⟩:=b;have a:(⟨(lvB s).toArray⟩:ByteArray).size=s.length:=by
  show(lvB s).toArray.size=_;rw[List.size_toArray,lvB_length]
 have h:=Tryz.strings_Cut ⟨(lvB s).toArray⟩ ⟨#[32,35]⟩ m w (by rw[a];omega) c
 rw[<-Sv_lv]at h;rw[show(⟨(lvB s).toArray⟩:ByteArray).data.toList=lvB s from rfl,show(⟨#[32,35]⟩:ByteArray).data.toList=[32,35]from rfl]at h;refine h.mono ?_;rintro e w' ⟨rfl,d⟩;refine⟨⟨(Lib.cut (lvB s) [32,35]).2.2,?_⟩,d⟩;have j:Sv (wY s).1=.string ⟨(Lib.cut (lvB s) [32,35]).1.toArray⟩:=by rw[Sv_lv,wY,lvB_bvL]
 have k:Sv (wY s).2=.string ⟨(Lib.cut (lvB s) [32,35]).2.1.toArray⟩:=by rw[Sv_lv,wY,lvB_bvL]
 rw[j,k]
def kw(s:List (BitVec 8)):List (List (BitVec 8)):=(Lib.splitK [32] 0 (min 9 (s.length+1)-1) (lvB s)).map bvL
theorem La(w:World)(s:List (BitVec 8))(z:s.length<=1000000)(p:nT w):
  Calls prog 112 #[Sv s,.string ⟨#[32]⟩,.int .i64 9] w λe w'=>∃a,e=.returned (.slice (some ⟨w.heap.size,0,none⟩) (kw s).length a)/\WordsAt w' w.heap.size (kw s)/\Bw w w'/\(kw s).length<=a/\(kw s).length<=9:=by
 obtain⟨_,_,m,q⟩:=p;have d:(⟨(lvB s).toArray⟩:ByteArray).size=s.length:=by
  show(lvB s).toArray.size=_;rw[List.size_toArray,lvB_length]
 have h:=Tryz.strings_SplitN ⟨(lvB s).toArray⟩ ⟨#[32]⟩ 9 m w (by omega) q (by decide) (by decide) (by decide)
 rw[<-Sv_lv,d]at h;have r:=Lib.splitB_data ⟨#[32]⟩ 0 (min 9 (s.length+1)-1) ⟨(lvB s).toArray⟩;have c:kw s=(Lib.splitB ⟨#[32]⟩ 0 (min 9 (s.length+1)-1) ⟨(lvB s).toArray⟩).map λb=>bvL b.data.toList:=by
  have k:(Lib.splitB ⟨#[32]⟩ 0 (min 9 (s.length+1)-1) ⟨(lvB s).toArray⟩).map (·.data.toList)=Lib.splitK [32] 0 (min 9 (s.length+1)-1) (lvB s):=by simpa using r
  rw[kw,<-k,List.map_map];rfl
 refine h.mono ?_;rintro e w' ⟨rfl,rfl⟩;have u:=Lib.splitB_length_le ⟨#[32]⟩ 0 (min 9 (s.length+1)-1) ⟨(lvB s).toArray⟩;refine⟨_,by rw[c,bfz],?_,(Below.refl _ w).alloc (bfx _) _,by rw[c,bfz];omega,by rw[c,bfz];omega⟩
 intro j x n;rw[c,bgf,Option.map_eq_some_iff]at n;obtain⟨y,o,rfl⟩:=n;rw[cell_of_row _ _ _ _ _ _ (bg5 w _),Lib.cellsOf];have l:=(List.getElem?_eq_some_iff.1 o).1;rw[List.getElem?_toArray,List.getElem?_append_left (by simpa using l),bgf,o,Option.map_some,<-Sv_bv]
theorem MG(s:List (BitVec 8)):∀x∈kw s,x.length<=s.length:=by
 intro x a;obtain⟨y,b,rfl⟩:=List.mem_map.1 a;rw[bvL_length,<-lvB_length s];exact splitK_len _ _ _ b
theorem RI {w:World} {g n c:Nat} {b:List (List (BitVec 8))}(l:WordsAt w g b)(i:Nat)(o:n=b.length)(d:i<=n)(p:n<=c):
  ∃h m,(∀w',(Instr.slice 95 (.slice (some ⟨g,0,none⟩) n c) (some (.int .i64 (i:Int))) none none).run prog w'=.ok (.slice h (n-i) m) w')/\∀j x,(b.drop i)[j]? =some x->h=some ⟨g,i,none⟩/\w.cell? ⟨g,i+j,none⟩=some (Sv x):=by
 have k:∀w,(sizeOf 9).run prog w=.ok 1 w:=sizeOf9;by_cases e:c=i
 ·subst e;exact⟨_,_,λw'=>by simp[Instr.slice,run_underlying underlying95,Instr.sliceBounds,run_sliceBound,k,d];exact⟨rfl,rfl⟩,λj x a=>by
   have:=(List.getElem?_eq_some_iff.1 a).1;rw[bgx]at this;omega⟩
 refine⟨some ⟨g,i,none⟩,c-i,λw'=>by simp[Instr.slice,run_underlying underlying95,Instr.sliceBounds,run_sliceBound,k,d,addr_add,e],λj x a=>⟨rfl,l _ _ ?_⟩⟩
 rw[List.getElem?_drop]at a;exact a
theorem NE {w:World} {g n c:Nat} {a:List (List (BitVec 8))}(d:WordsAt w g a)(e:n=a.length)(h:1<=n)(k:n<=c):
  ∃b l,(∀w',(Instr.slice 95 (.slice (some ⟨g,0,none⟩) n c) (some (.int .i64 1)) none none).run prog w'=.ok (.slice b (n-1) l) w')/\∀j x,(a.drop 1)[j]? =some x->b=some ⟨g,1,none⟩/\w.cell? ⟨g,1+j,none⟩=some (Sv x):=RI d 1 e h k
def Md:List UInt8:=[108,97,116,101,32]
def JV(s:List (BitVec 8)):List (BitVec 8):=bvL (Lib.trimPrefix (lvB s) Md)
def L8(s:List (BitVec 8)):Bool:=Lib.hasPrefix (lvB s) Md
theorem Hu(w:World)(s:List (BitVec 8)):Calls prog 109 #[Sv s,.string ⟨#[108,97,116,101,32]⟩] w λe w'=>e=.returned (.tuple #[Sv (JV s),.bool (L8 s)])/\w'=w:=by
 have h:=Tryz.strings_CutPrefix ⟨(lvB s).toArray⟩ ⟨#[108,97,116,101,32]⟩ w;rw[<-Sv_lv]at h;have a:Sv (JV s)=.string ⟨(Lib.trimPrefix (lvB s) Md).toArray⟩:=by rw[Sv_lv,JV,lvB_bvL]
 rw[a];exact h
theorem TN(s:List (BitVec 8)):(JV s).length<=s.length:=by
 have a:∀l:List UInt8,(bvL l).length=l.length:=λl=>by simp[bvL]
 have b:=lvB_length s;unfold JV Lib.trimPrefix
 split <;> simp only[a,bgx] <;> omega
def ND(s:List (BitVec 8)):dE:=⟨false,zeroI,(parseW (wY s).1).1,numL ((kw (wY s).2).headD []),((kw (wY s).2).drop 1).map numL⟩
def jV(s:List (BitVec 8)):dE:=if L8 s=true/\(parseL (JV s)).2=true then ⟨true,(parseL (JV s)).1,bF,0,[]⟩else ND s
def qI(s:List (BitVec 8)):dE × Bool:=if (jV s).rightB=true/\(jV s).told=s then (jV s,true)else (qj,false)
end Go.Proofs.YtgfmbkoieacgoaaGreatDoor
