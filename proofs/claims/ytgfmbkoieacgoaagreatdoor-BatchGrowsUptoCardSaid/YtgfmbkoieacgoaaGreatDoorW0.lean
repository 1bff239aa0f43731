/- 0. -/
import Derived.Lib.Hide
namespace Go.Proofs.YtgfmbkoieacgoaaGreatDoor
open Go Go.RowKit
theorem Nm{α:Sort _}(x:α):∃y,y=x:=⟨x,rfl⟩
theorem Lh{p:Prop}(h:p):Hid p:=h
theorem Br{B:Nat}{w:World}:Below B w w:=.refl _ _
theorem Tb{a b c:World}(h:Below a.heap.size a b)(k:Below b.heap.size b c):Below a.heap.size a c:=h.trans (k.mono h.size)
abbrev Bw(w u:World):Prop:=Below w.heap.size w u
abbrev NoF(l:List (Option Nat)):=none::none::none::none::none::l
theorem IlA{α β:Sort _}{p q:α→β→Prop}:∀a b,p a b→p a b∨q a b:=λ_ _=>.inl
theorem Ep(a:Act)(s:Tmp)(x:Value)(h:a.eval (.tmp s)=x):a.tmps[s]?.getD undef=x:=by simpa [Act.eval] using h
theorem Pa(a:Act)(s:Tmp)(b k:Nat)(h:a.eval (.tmp s)=.pointer (some ⟨b,k,none⟩)):a.tmps[s]?.getD undef=.pointer (some ⟨b,k,none⟩):=Ep a s _ h
theorem Pi(a:Act)(s:Tmp)(k:Int)(h:a.eval (.tmp s)=.int .i64 k):a.tmps[s]?.getD undef=.int .i64 k:=Ep a s _ h
theorem FoA{P:Tmp→Prop}{a b:Act}(h:Hid (∀s,P s→a.eval (.tmp s)=b.eval (.tmp s)))(s:Tmp)(x:Value)(e:P s:=by exact rfl)(f:b.eval (.tmp s)=x:=by exact rfl):a.tmps[s]?.getD undef=x:=Ep a s x ((h s e).trans f)
theorem FaA{P:Tmp→Prop}{a c:Act}(h:Hid (∀s,P s→a.eval (.tmp s)=c.eval (.tmp s)))(s:Tmp)(b k:Nat)(e:P s:=by exact rfl)(f:c.eval (.tmp s)=.pointer (some ⟨b,k,none⟩):=by exact rfl):a.tmps[s]?.getD undef=.pointer (some ⟨b,k,none⟩):=FoA h s _ e f
theorem FiA{P:Tmp→Prop}{a c:Act}(h:Hid (∀s,P s→a.eval (.tmp s)=c.eval (.tmp s)))(s:Tmp)(k:Int)(e:P s:=by exact rfl)(f:c.eval (.tmp s)=.int .i64 k:=by exact rfl):a.tmps[s]?.getD undef=.int .i64 k:=FoA h s _ e f
theorem Eo{P:Tmp→Prop}{a b:Act}(h:∀s,P s→a.eval (.tmp s)=b.eval (.tmp s))(s:Tmp)(x:Value)(e:P s:=by exact rfl)(f:b.eval (.tmp s)=x:=by exact rfl):a.tmps[s]?.getD undef=x:=Ep a s x ((h s e).trans f)
theorem Ea{P:Tmp→Prop}{a c:Act}(h:∀s,P s→a.eval (.tmp s)=c.eval (.tmp s))(s:Tmp)(b k:Nat)(e:P s:=by exact rfl)(f:c.eval (.tmp s)=.pointer (some ⟨b,k,none⟩):=by exact rfl):a.tmps[s]?.getD undef=.pointer (some ⟨b,k,none⟩):=Eo h s _ e f
theorem Ei{P:Tmp→Prop}{a c:Act}(h:∀s,P s→a.eval (.tmp s)=c.eval (.tmp s))(s:Tmp)(k:Int)(e:P s:=by exact rfl)(f:c.eval (.tmp s)=.int .i64 k:=by exact rfl):a.tmps[s]?.getD undef=.int .i64 k:=Eo h s _ e f
abbrev bfq:=@decide_eq_false
abbrev bfr:=@decide_eq_true
abbrev bfs:=@List.getElem?_eq_getElem
abbrev bft:=@List.length_append
abbrev bfu:=@List.set_cons_succ
abbrev bfv:=@List.set_cons_zero
abbrev bfw:=@List.setIfInBounds_toArray
abbrev bfx:=@Nat.le_refl
abbrev bfy:=@And.intro
abbrev bfz:=@List.length_map
abbrev bf0:=@decide_eq_true_eq
abbrev bf1:=@List.headD_cons
abbrev bf2:=@List.mem_cons
abbrev bf3:=@List.mem_of_getElem?
abbrev bf4:=@List.getElem?_eq_some_iff
abbrev bf5:=@Option.some.injEq
abbrev bf6:=@Array.getElem?_eq_some_iff
abbrev bf7:=@List.tail_cons
abbrev bf8:=@Bool.and_eq_true
abbrev bf9:=@List.not_mem_nil
abbrev bga:=@List.length_take
abbrev bgb:=@List.map_toArray
abbrev bgc:=@List.map_cons
abbrev bgd:=@List.mem_singleton
abbrev bge:=@List.map_nil
abbrev bgf:=@List.getElem?_map
abbrev bgg:=@List.mem_append
abbrev bgh:=@of_decide_eq_true
abbrev bgi:=@Nat.zero_le
abbrev bgj:=@List.mem_map
abbrev bgk:=@List.getElem?_eq_none
abbrev bgl:=@List.map_append
abbrev bgm:=@Array.getElem?_eq_getElem
abbrev bgn:=@Nat.le_trans
abbrev bgo:=@List.contains_iff_mem
abbrev bgp:=@List.getElem?_cons_zero
abbrev bgq:=@Array.length_toList
abbrev bgr:=@List.pairwise_iff_getElem
abbrev bgs:=@List.take_length
abbrev bgt:=@List.all_eq_true
abbrev bgu:=@Nat.zero_add
abbrev bgv:=@List.mem_filter
abbrev bgw:=@Bool.true_and
abbrev bgx:=@List.length_drop
abbrev bgy:=@List.length_cons
abbrev bgz:=@List.append_assoc
abbrev bg0:=@List.length_singleton
abbrev bg1:=@Nat.lt_or_ge
abbrev bg2:=@List.append_nil
abbrev bg3:=@List.eq_nil_of_length_eq_zero
end Go.Proofs.YtgfmbkoieacgoaaGreatDoor
