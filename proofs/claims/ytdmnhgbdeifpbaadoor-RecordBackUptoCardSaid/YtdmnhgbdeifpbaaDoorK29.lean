/-
  Part 29 of 33 of what the proof leans on.
-/
import Derived.Test.YtdmnhgbdeifpbaaDoorK26
import Derived.Test.YtdmnhgbdeifpbaaDoorK27
import Derived.Test.YtdmnhgbdeifpbaaDoorK28
namespace Go.Proofs.YtdmnhgbdeifpbaaDoor
open Go Go.RowKit
def PQ9 (ZR ZT : Array Value) (B6 : Nat) (p q : Option Value) (w : World) : Prop :=
  (∀ v, p = some v → ∃ b, v = .pointer (some ⟨b, 0, none⟩) ∧ B6 ≤ b ∧ w.heap[b]? = some (.cells ZR 25 (0, 0))) ∧
  (∀ v, q = some v → ∃ b, v = .pointer (some ⟨b, 0, none⟩) ∧ B6 ≤ b ∧ w.heap[b]? = some (.cells ZT 23 (0, 0)))
theorem PQ9.empty (ZR ZT : Array Value) (B6 : Nat) (w : World) : PQ9 ZR ZT B6 none none w := ⟨fun _ h => (by cases h), fun _ h => (by cases h)⟩
theorem PQ9.keep {ZR ZT : Array Value} {B6 : Nat} {p q : Option Value} {w w' : World} (h : PQ9 ZR ZT B6 p q w) (hk : ∀ (b : Nat) (c : Array Value) (t : TypeId), w.heap[b]? = some (Obj.cells c t (0, 0)) → t ≠ 5 → w'.heap[b]? = w.heap[b]?) : PQ9 ZR ZT B6 p q w' :=
  ⟨fun v hv => by
    obtain ⟨b, h1, h2, h3⟩ := h.1 v hv
    exact ⟨b, h1, h2, (hk b _ _ h3 (by decide)).trans h3⟩, fun v hv => by
    obtain ⟨b, h1, h2, h3⟩ := h.2 v hv
    exact ⟨b, h1, h2, (hk b _ _ h3 (by decide)).trans h3⟩⟩
theorem PQ9.below {ZR ZT : Array Value} {B6 : Nat} {p q : Option Value} {w w' : World} (h : PQ9 ZR ZT B6 p q w) (hB : Below w.heap.size w w') : PQ9 ZR ZT B6 p q w' :=
  h.keep fun b _ _ h _ => hB.block b (Array.getElem?_eq_some_iff.1 h).1
theorem PQ9.addR {ZR ZT : Array Value} {B6 : Nat} {q : Option Value} {w : World} (h : PQ9 ZR ZT B6 none q w) (hb : B6 ≤ w.heap.size) : PQ9 ZR ZT B6 (some (.pointer (some ⟨w.heap.size, 0, none⟩))) q (w.alloc (.cells ZR 25)) :=
  ⟨fun v hv => by cases hv; exact ⟨_, rfl, hb, heap_alloc_new w _⟩, (h.below ((Below.refl _ w).alloc (Nat.le_refl _) _)).2⟩
theorem PQ9.addT {ZR ZT : Array Value} {B6 : Nat} {p : Option Value} {w : World} (h : PQ9 ZR ZT B6 p none w) (hb : B6 ≤ w.heap.size) : PQ9 ZR ZT B6 p (some (.pointer (some ⟨w.heap.size, 0, none⟩))) (w.alloc (.cells ZT 23)) :=
  ⟨(h.below ((Below.refl _ w).alloc (Nat.le_refl _) _)).1, fun v hv => by cases hv; exact ⟨_, rfl, hb, heap_alloc_new w _⟩⟩
theorem PQ9.grown {ZR ZT : Array Value} {B6 base : Nat} {p q : Option Value} {w w' : World} {v : Value} {xs : List Value} (h : PQ9 ZR ZT B6 p q w) (ho : Own w base 5 v xs) (hg : w.grownBy w' v.ownBlock) : PQ9 ZR ZT B6 p q w' :=
  h.keep fun b c t hb ht => hg.block b (Array.getElem?_eq_some_iff.1 hb).1 fun e => by
    rcases ho.2 with ⟨hv, _⟩ | ⟨g, cap, cur, hv, _, hgr, _⟩
    · rw [hv] at e
      cases e
    · rw [hv] at e
      injection e with e
      subst e
      rw [hb] at hgr
      injection hgr with hgr
      injection hgr with _ e2
      exact ht e2
theorem wp_alloc_of {o : Oper} {a : Act} {w : World} {K : Act → World → Prop} {Q : Exit → Act → World → Prop} (t : TypeId) (ho : o.op = .alloc t) {Z : Array Value} (hz : ∀ w, (zeroValue t).run Tryd.prog w = .ok (.agg Z) w)
    (h : K (a.put o.dst (.pointer (some ⟨w.heap.size, 0, none⟩))) (w.alloc (.cells Z t))) : o.wp Tryd.prog a w K Q := by
  have hh := hz w
  have hK : ∀ A, A = a.put o.dst (.pointer (some ⟨w.heap.size, 0, none⟩)) → K A (w.alloc (.cells Z t)) := fun A hA => by rw [hA]; exact h
  clear h
  unfold Oper.wp execOp
  go_simp
  exact hK _ rfl
theorem wp_append_bytes {o : Oper} {a : Act} {w : World} {K : Act → World → Prop} {Q : Exit → Act → World → Prop} (s x : Operand)
    (ho : o.op = .call { callee := .builtin .append, args := #[s, x], argTypes := #[26, 26] }) (base : Nat) (v : Value) (xs : List Value) (hs : a.eval s = v) (hown : Own w base 5 v xs)
    (sa : Option Addr) (c : Nat) (m : List (BitVec 8)) (n : Nat) (hn : n = m.length) (hx : a.eval x = .slice sa n c) (hm : SrcP w sa m.length m) (hl : xs.length + m.length ≤ 1073741824) (hb : base ≤ w.heap.size)
    (h : ∀ v' w', Own w' base 5 v' (xs ++ m.map B) → w.grownBy w' v.ownBlock → K (a.put o.dst v') w') : o.wp Tryd.prog a w K Q := by
  subst hn
  obtain ⟨v', w', hr, h2, h3, h4⟩ := append_own w base v xs hown sa c m hm hl hb o.type
  unfold Oper.wp execOp
  simp only [ho, resolve, invoke, builtin, Sem.run_bind, Sem.run_pure, Result.andThen_ok, List.map_toArray, List.map_cons, List.map_nil, hs, hx, hr]
  exact h v' w' h2 h3
theorem yieldsIf_move {P : Program} {o : Oper} {a : Act} {ops : Array Oper} {S : World → Prop} (hg : o.guard = none) (x : Operand) (ho : o.op = .move x) {v : Value} (hx : a.eval x = v) : YieldsIf P ops S o v a := by
  refine .inl ⟨by simp [Region.wanted, hg], fun w _ => ?_⟩
  unfold execOp
  simp only [ho, hx, Sem.run_pure]
theorem yieldsIf_extract {P : Program} {o : Oper} {a : Act} {ops : Array Oper} {S : World → Prop} (hg : o.guard = none) (x : Operand) (n : Nat) (ho : o.op = .extract x n) {vs : Array Value} {v : Value} (hx : a.eval x = .tuple vs) (hv : vs[n]? = some v) : YieldsIf P ops S o v a := by
  refine .inl ⟨by simp [Region.wanted, hg], fun w _ => ?_⟩
  unfold execOp
  simp only [ho, hx, Instr.extract, Sem.run_bind, hv, Sem.run_pure, Result.andThen_ok]
theorem ItemsAt.other {w w' : World} {a : Option Addr} {l : List ItemL} (h : ItemsAt w a l) {b : Nat} {cs : Array Value} {t : TypeId} {fr : Nat × Nat} (hb : w.heap[b]? = some (.cells cs t fr)) (hn : ∀ (j : Nat) s, cs[j]? ≠ some (Value.string s))
    (hk : ∀ k, k ≠ b → k < w.heap.size → w'.heap[k]? = w.heap[k]?) : ItemsAt w' a l := by
  rcases h with h | ⟨g, o, rfl, h⟩
  · exact .inl h
  · refine .inr ⟨g, o, rfl, fun i x hx j v hv => ?_⟩
    have h1 := h i x hx 1 (Sv x.key) (by simp [ItemL.cells])
    have hne : g ≠ b := by
      rintro rfl
      rw [cell_of_row _ _ _ _ _ _ hb] at h1
      exact hn _ _ h1
    have hlt := block_lt_of_cell h1
    rw [World.cell?_of_block (w := w) (hk g hne hlt)]
    exact h i x hx j v hv
theorem recC_nostr {k s a : Int} {iv : Value} {r : List (BitVec 8)} (hi : ∀ s, iv ≠ .string s) : ∀ (j : Nat) t, (recC k s iv a r)[j]? ≠ some (Value.string t) := by
  intro j t h
  have hm := Array.mem_of_getElem? h
  simp only [recC, Array.mem_append] at hm
  rcases hm with hm | hm
  · simp at hm
    rcases hm with hm
    exact hi t hm.symm
  · simp [byA, B] at hm
theorem byA_nostr (r : List (BitVec 8)) : ∀ (j : Nat) t, (byA r)[j]? ≠ some (Value.string t) := by
  intro j t h
  have hm := Array.mem_of_getElem? h
  simp [byA, B] at hm
theorem blocks_seal (key ahead : List (BitVec 8)) {x : RecL} (h : x.rightB = true) : x.blocks = (sealB key ahead x.body).length / 128 := by
  unfold RecL.blocks
  rw [if_pos h, sealB, List.length_append, List.length_append, macL_tag_len, List.length_replicate]
def L9 (n4 n6 n8 n9 m10 m11 m12 m13 m14 p q : Bool) : Array Bool := #[true, true, true, true, n4, true, n6, true, n8, n9, m10, m11, m12, m13, m14, p, q, false, false, false, false]
def BackCut9 (w6 : World) (x : RecL) (hh : List (BitVec 8)) (n : Nat) (s9 s10 s11 s12 : Value) (wx : World) : Prop :=
  ∃ yb qb ya yc, s9 = .pointer (some ⟨yb, 0, none⟩) ∧ s10 = .pointer (some ⟨qb, 0, none⟩) ∧ s11 = .int .i64 (n : Int) ∧ s12 = .int .i64 0 ∧ Below w6.heap.size w6 wx ∧
    wx.heap[yb]? = some (.cells (recC x.kind x.seq (.slice ya x.items.length yc) x.area x.root) 25 (0, 0)) ∧ wx.heap[qb]? = some (.cells (byA hh) 23 (0, 0)) ∧ ItemsAt wx ya x.items
theorem seal_whole (key ahead body : List (BitVec 8)) : (sealB key ahead body).length % 128 = 0 := by
  rw [sealB, List.length_append, List.length_append, macL_tag_len, List.length_replicate]
  unfold noughtN
  omega
end Go.Proofs.YtdmnhgbdeifpbaaDoor
namespace Go.Proofs.YtdmnhgbdeifpbaaDoor
open Go Go.RowKit
theorem row_ne14 {w : World} {a b : Nat} {c c' : Array Value} (h : w.heap[a]? = some (.cells c 25 (0, 0))) (h' : w.heap[b]? = some (.cells c' 23 (0, 0))) : a ≠ b := by
  rintro rfl
  rw [h] at h'
  injection h' with h'
  injection h' with _ e
  exact absurd e (by decide)
theorem back_set {w0 w : World} {a b : Nat} {c c' : Array Value} {t t' : TypeId} (h : w.heap[a]? = some (.cells c t (0, 0))) (h' : w.heap[b]? = some (.cells c' t' (0, 0))) (ha : w0.heap.size ≤ a) (hne : a ≠ b) (C : Array Value) :
    Below w0.heap.size w (w.setRow a C) ∧ (w.setRow a C).heap[a]? = some (.cells C t (0, 0)) ∧ (w.setRow a C).heap[b]? = some (.cells c' t' (0, 0)) :=
  ⟨⟨rfl, rfl, rfl, by simp [World.setRow], fun k hk => setRow_other w a k C (by omega)⟩, setRow_heap w a _ _ _ _ h, (setRow_other w a b C hne.symm).trans h'⟩
theorem wpList_eql_root {ops : Array Oper} {rest : List Oper} {o : Oper} {a : Act} {w : World} {Q : Exit → Act → World → Prop} (hw : Region.wanted o (yielded ops a.tmps) = true) (x y : Operand) (z : TypeId) (ho : o.op = .binOp .eql 23 x y z) (r : List (BitVec 8)) (hr : r.length = 32)
    (hx : a.eval x = .agg (byA r)) (hy : a.eval y = .agg (byA r)) (h : wpList Tryd.prog ops Q rest (a.put o.dst (.bool true)) w) : wpList Tryd.prog ops Q (o :: rest) a w :=
  wpList_wanted hw fun K hK => by
    have g := run_eql_root w r r hr hr
    rw [decide_eq_true rfl] at g
    unfold Oper.wp execOp
    simp only [ho, hx, hy, Sem.run_bind, run_guard_root, g, Result.andThen_ok, Sem.run_pure]
    exact hK _ _ h
def BackCut (w : World) (C : Array Value) (kv : Value) (ahead : List (BitVec 8)) (ov : Value) (s3 s4 s5 s6 : Value) (wx : World) : Prop :=
  ∃ xb hb : Nat, s3 = .pointer (some ⟨xb, 0, none⟩) ∧ s4 = kv ∧ s5 = .pointer (some ⟨hb, 0, none⟩) ∧ s6 = ov ∧ Below w.heap.size w wx ∧ wx.heap[xb]? = some (.cells C 25 (0, 0)) ∧ wx.heap[hb]? = some (.cells (byA ahead) 23 (0, 0))
set_option maxRecDepth 100000 in
set_option maxHeartbeats 3000000 in
theorem recordBack_law (w : World) (x : RecL) (key ahead other : List (BitVec 8)) (ia ka oa : Option Addr) (ic kc oc : Nat) (hW : ShaOk w) (hI : ItemsAt w ia x.items) (hr : x.root.length = 32) (hq : greatL x.items ≤ 1152921504606846976)
    (ha : ahead.length = 32) (hK : SrcP w ka key.length key) (hkc : key.length ≤ kc) (hkm : kc ≤ 9223372036854775807) (hO : SrcP w oa other.length other) (hoc : other.length ≤ oc) (hom : oc ≤ 9223372036854775807) (hs9 : key.length + other.length ≤ 9223372036854775807) :
    Calls Tryd.prog 5 #[.agg (caseC (recC x.kind x.seq (.slice ia x.items.length ic) x.area x.root) (.slice ka key.length kc) ahead (.slice oa other.length oc))] w (Below0 w (.bool true)) := by
  obtain ⟨P, hP⟩ : ∃ P : Ending → World → Prop, P = Below0 w (.bool true) := ⟨_, rfl⟩
  rw [← hP]
  obtain ⟨ZR, hZR⟩ : ∃ z, z = zeroC := ⟨_, rfl⟩
  have hzr := zero_rec.1
  rw [← hZR] at hzr
  obtain ⟨ZT, hZT⟩ : ∃ z, z = byA zeroH := ⟨_, rfl⟩
  have hzt := zero_root.1
  rw [← hZT] at hzt
  obtain ⟨C, hC⟩ : ∃ z, z = recC x.kind x.seq (.slice ia x.items.length ic) x.area x.root := ⟨_, rfl⟩
  obtain ⟨KN, hKN⟩ : ∃ n, n = key.length := ⟨_, rfl⟩
  obtain ⟨ON, hON⟩ : ∃ n, n = other.length := ⟨_, rfl⟩
  rw [← hC, ← hKN, ← hON]
  obtain ⟨CC, hCC⟩ : ∃ z, z = caseC C (.slice ka KN kc) ahead (.slice oa ON oc) := ⟨_, rfl⟩
  rw [← hCC]
  obtain ⟨w1, hw1⟩ : ∃ W, W = w.alloc (.cells CC 44) := ⟨_, rfl⟩
  obtain ⟨cb, hb⟩ : ∃ b, b = w.heap.size := ⟨_, rfl⟩
  have hB1 : Below w.heap.size w w1 := by rw [hw1]; exact (Below.refl _ w).alloc (Nat.le_refl _) _
  have hrow : RowK w1 cb C (.slice ka KN kc) ahead (.slice oa ON oc) := ⟨by rw [hC]; exact recC_size hr, ha, by rw [hw1, hb, ← hCC]; exact heap_alloc_new w _⟩
  have HF := Lib.hid (rfirst14_any w1 (hW.below hB1))
  have HN := Lib.hid (And.intro hP (And.intro hZR (And.intro hZT (And.intro hC (And.intro hKN hON)))))
  have H1 := Lib.hid (And.intro hB1 (And.intro hrow (And.intro hW (And.intro hI (And.intro hr (And.intro hq (And.intro ha trivial)))))))
  have HK := Lib.hid (And.intro hK (And.intro hkc (And.intro hkm hs9)))
  have HO := Lib.hid (And.intro hO (And.intro hoc (And.intro hom trivial)))
  clear hs9 hP hZR hZT hC hKN hON hCC hB1 hrow hW hI hr hq ha hK hkc hkm hO hoc hom
  go_enter Tryd.func5, Tryd.ntmps5
  go_upto_region 1 with (fail)
  rw [← hw1, ← hb]
  clear hw1 hb
  go_wp2_with (fail)
  refine HF.out.mono ?_
  rintro e w2 ⟨rfl, hB2⟩
  have H2 := Lib.hid hB2
  clear hB2 HF
  dsimp only
  go_upto_region 3 with (fail)
  -- region 3
  go_cut [3, 4, 5, 6] from 21 to 28 (BackCut w C (.slice ka KN kc) ahead (.slice oa ON oc))
  case first =>
    have hdr : RowK w2.drew cb C (.slice ka KN kc) ahead (.slice oa ON oc) := by
      have h := H1.out.2.1.below H2.out
      exact ⟨h.1, h.2.1, h.2.2⟩
    have HS : Hid (C.size = 36 ∧ ZR.size = 36 ∧ C.all (·.oneCell') = true ∧ (byA ahead).size = 32 ∧ ZT.size = 32 ∧ (byA ahead).all (·.oneCell') = true) := by
      rw [HN.out.2.1, HN.out.2.2.1, HN.out.2.2.2.1]
      exact Lib.hid ⟨recC_size H1.out.2.2.2.2.1, zeroC_size, recC_one _ rfl, by rw [byA_size]; exact H1.out.2.2.2.2.2.2.1, by rw [byA_size, zeroH_len], byA_one _⟩
    refine wp_region_held_drew (S := fun w' => RowK w' cb C (.slice ka KN kc) ahead (.slice oa ON oc)) (by kernel_rfl) hdr (fun hHeld => ?_)
    clear hdr
    refine tkFree (i := 0) rfl (by kernel_rfl) (by kernel_rfl) (by kernel_rfl) (fun _ _ _ h => h) (.inl ⟨by rfl, fun w hSw => by go_simp; rfl⟩) hHeld ?_
    simp only [Act.put, List.setIfInBounds_toArray, List.set_cons_zero, List.set_cons_succ]
    refine tkFree (i := 1) (v := .agg C) rfl (by kernel_rfl) (by kernel_rfl) (by kernel_rfl) (fun _ _ _ h => h) (yieldsIf_load_at (by rfl) 25 _ rfl ⟨cb, 0, none⟩ rfl (fun w hS => hS.d4.1)) hHeld ?_
    simp only [Act.put, List.setIfInBounds_toArray, List.set_cons_zero, List.set_cons_succ]
    refine tkFree (i := 2) rfl (by kernel_rfl) (by kernel_rfl) (by kernel_rfl) (fun _ _ _ h => h) (.inl ⟨by rfl, fun w hSw => by go_simp; rfl⟩) hHeld ?_
    simp only [Act.put, List.setIfInBounds_toArray, List.set_cons_zero, List.set_cons_succ]
    refine tkFree (i := 3) rfl (by kernel_rfl) (by kernel_rfl) (by kernel_rfl) (fun _ _ _ h => h) (.inl ⟨by rfl, fun w hSw => by have d := hSw.d4.2.1; go_simp; rfl⟩) hHeld ?_
    simp only [Act.put, List.setIfInBounds_toArray, List.set_cons_zero, List.set_cons_succ]
    refine tkFree (i := 4) rfl (by kernel_rfl) (by kernel_rfl) (by kernel_rfl) (fun _ _ _ h => h) (.inl ⟨by rfl, fun w hSw => by go_simp; rfl⟩) hHeld ?_
    simp only [Act.put, List.setIfInBounds_toArray, List.set_cons_zero, List.set_cons_succ]
    refine tkFree (i := 5) (v := .agg (byA ahead)) rfl (by kernel_rfl) (by kernel_rfl) (by kernel_rfl) (fun _ _ _ h => h) (yieldsIf_load_at (by rfl) 23 _ rfl ⟨cb, 37, none⟩ rfl (fun w hS => hS.d4.2.2.1)) hHeld ?_
    simp only [Act.put, List.setIfInBounds_toArray, List.set_cons_zero, List.set_cons_succ]
    refine tkFree (i := 6) rfl (by kernel_rfl) (by kernel_rfl) (by kernel_rfl) (fun _ _ _ h => h) (.inl ⟨by rfl, fun w hSw => by go_simp; rfl⟩) hHeld ?_
    simp only [Act.put, List.setIfInBounds_toArray, List.set_cons_zero, List.set_cons_succ]
    refine tkFree (i := 7) rfl (by kernel_rfl) (by kernel_rfl) (by kernel_rfl) (fun _ _ _ h => h) (.inl ⟨by rfl, fun w hSw => by have d := hSw.d4.2.2.2; go_simp; rfl⟩) hHeld ?_
    simp only [Act.put, List.setIfInBounds_toArray, List.set_cons_zero, List.set_cons_succ]
    refine tkTwo 8 9 rfl rfl (by decide +kernel) rfl rfl (fun K hK => ?_) (fun K hK => ?_)
    · go_simp
      obtain ⟨w3, hWw3⟩ : ∃ W, W = (w2.alloc (.cells ZR 25)).drew := ⟨_, rfl⟩
      obtain ⟨xb, hbxb⟩ : ∃ b, b = w2.heap.size := ⟨_, rfl⟩
      rw [← hWw3, ← hbxb]
      have hrxb : w3.heap[xb]? = some (.cells ZR 25 (0, 0)) := by rw [hWw3, hbxb]; exact heap_alloc_new w2 _
      have hBw3 : Below w2.heap.size w2 w3 := by rw [hWw3]; exact ((Below.refl _ w2).alloc (Nat.le_refl _) _).drew
      have hgxb : w2.heap.size ≤ xb := by rw [hbxb]; exact Nat.le_refl _
      clear hWw3 hbxb
      refine hK _ _ (H1.out.2.1.below (H2.out.trans (hBw3.mono H2.out.size))) ?_
      try simp only [Act.put, List.setIfInBounds_toArray, List.set_cons_zero, List.set_cons_succ]
      refine tkOne 9 rfl (by decide +kernel) rfl (fun K hK => ?_)
      go_simp
      obtain ⟨w4, hWw4⟩ : ∃ W, W = (w3.alloc (.cells ZT 23)) := ⟨_, rfl⟩
      obtain ⟨hb, hbhb⟩ : ∃ b, b = w3.heap.size := ⟨_, rfl⟩
      rw [← hWw4, ← hbhb]
      have hrhb : w4.heap[hb]? = some (.cells ZT 23 (0, 0)) := by rw [hWw4, hbhb]; exact heap_alloc_new w3 _
      have hBw4 : Below w3.heap.size w3 w4 := by rw [hWw4]; exact ((Below.refl _ w3).alloc (Nat.le_refl _) _)
      have hghb : w2.heap.size ≤ hb := by rw [hbhb]; exact hBw3.size
      clear hWw4 hbhb
      have hB24 : Below w2.heap.size w2 w4 := hBw3.trans (hBw4.mono hBw3.size)
      have hr2xb : w4.heap[xb]? = _ := (hBw4.block _ (Array.getElem?_eq_some_iff.1 hrxb).1).trans hrxb
      refine hK _ _ (H1.out.2.1.below (H2.out.trans (hB24.mono H2.out.size))) ?_
      try simp only [Act.put, List.setIfInBounds_toArray, List.set_cons_zero, List.set_cons_succ]
      have hne : xb ≠ hb := row_ne14 hr2xb hrhb
      have hG4 : w2.heap.size ≤ xb ∧ w2.heap.size ≤ hb := ⟨hgxb, hghb⟩
      obtain ⟨hE5, hr5, hr5h⟩ := back_set hr2xb hrhb hG4.1 hne C
      obtain ⟨hE6, hr6, hr6h⟩ := back_set hr5h hr5 hG4.2 hne.symm (byA ahead)
      refine tkOne 10 rfl (by decide +kernel) rfl (fun K hK => ?_)
      refine wp_store_row 25 (.tmp 3) (.tmp 22) rfl xb C rfl rfl 25 ZR hr2xb (by rw [HS.out.1]; kernel_rfl) (by rw [HS.out.1, HS.out.2.1]) HS.out.2.2.1 ?_
      refine hK _ _ (H1.out.2.1.below (H2.out.trans ((hB24.trans hE5).mono H2.out.size))) ?_
      try simp only [Act.put, ]
      refine tkFree (i := 11) rfl (by kernel_rfl) (by kernel_rfl) (by kernel_rfl) (fun _ _ _ h => h) (.inl ⟨by rfl, fun w hSw => by go_simp; rfl⟩) (H1.out.2.1.below (H2.out.trans ((hB24.trans hE5).mono H2.out.size))) ?_
      simp only [Act.put, List.setIfInBounds_toArray, List.set_cons_zero, List.set_cons_succ]
      refine tkOne 12 rfl (by decide +kernel) rfl (fun K hK => ?_)
      refine wp_store_row 23 (.tmp 5) (.tmp 26) rfl hb (byA ahead) rfl rfl 23 ZT hr5h (by rw [HS.out.2.2.2.1]; kernel_rfl) (by rw [HS.out.2.2.2.1, HS.out.2.2.2.2.1]) HS.out.2.2.2.2.2 ?_
      refine hK _ _ (H1.out.2.1.below (H2.out.trans (((hB24.trans hE5).trans hE6).mono H2.out.size))) ?_
      try simp only [Act.put, ]
      refine tkFree (i := 13) rfl (by kernel_rfl) (by kernel_rfl) (by kernel_rfl) (fun _ _ _ h => h) (.inl ⟨by rfl, fun w hSw => by go_simp; rfl⟩) (H1.out.2.1.below (H2.out.trans (((hB24.trans hE5).trans hE6).mono H2.out.size))) ?_
      simp only [Act.put, List.setIfInBounds_toArray, List.set_cons_zero, List.set_cons_succ]
      have HC : Hid (Below w.heap.size w ((w4.setRow xb C).setRow hb (byA ahead)) ∧ ((w4.setRow xb C).setRow hb (byA ahead)).heap[xb]? = some (.cells C 25 (0, 0)) ∧ ((w4.setRow xb C).setRow hb (byA ahead)).heap[hb]? = some (.cells (byA ahead) 23 (0, 0))) :=
        ⟨H1.out.1.trans ((H2.out.trans (((hB24.trans hE5).trans hE6).mono H2.out.size)).mono H1.out.1.size), hr6h, hr6⟩
      obtain ⟨w6, hw6⟩ : ∃ W, W = (w4.setRow xb C).setRow hb (byA ahead) := ⟨_, rfl⟩
      rw [← hw6] at HC ⊢
      refine wpAnyH_done (by kernel_rfl) ?_ _
      clear hgxb hghb hrxb hrhb hBw3 hBw4 hB24 hr2xb hne hG4 hE5 hr5 hr5h hE6 hr6 hr6h hw6 hHeld
      go_wp2_with (fail)
      go_meet
      case rel => exact ⟨xb, hb, rfl, rfl, rfl, rfl, HC.out⟩
    · go_simp
      obtain ⟨w3, hWw3⟩ : ∃ W, W = (w2.alloc (.cells ZT 23)).drew := ⟨_, rfl⟩
      obtain ⟨hb, hbhb⟩ : ∃ b, b = w2.heap.size := ⟨_, rfl⟩
      rw [← hWw3, ← hbhb]
      have hrhb : w3.heap[hb]? = some (.cells ZT 23 (0, 0)) := by rw [hWw3, hbhb]; exact heap_alloc_new w2 _
      have hBw3 : Below w2.heap.size w2 w3 := by rw [hWw3]; exact ((Below.refl _ w2).alloc (Nat.le_refl _) _).drew
      have hghb : w2.heap.size ≤ hb := by rw [hbhb]; exact Nat.le_refl _
      clear hWw3 hbhb
      refine hK _ _ (H1.out.2.1.below (H2.out.trans (hBw3.mono H2.out.size))) ?_
      try simp only [Act.put, List.setIfInBounds_toArray, List.set_cons_zero, List.set_cons_succ]
      refine tkOne 8 rfl (by decide +kernel) rfl (fun K hK => ?_)
      go_simp
      obtain ⟨w4, hWw4⟩ : ∃ W, W = (w3.alloc (.cells ZR 25)) := ⟨_, rfl⟩
      obtain ⟨xb, hbxb⟩ : ∃ b, b = w3.heap.size := ⟨_, rfl⟩
      rw [← hWw4, ← hbxb]
      have hrxb : w4.heap[xb]? = some (.cells ZR 25 (0, 0)) := by rw [hWw4, hbxb]; exact heap_alloc_new w3 _
      have hBw4 : Below w3.heap.size w3 w4 := by rw [hWw4]; exact ((Below.refl _ w3).alloc (Nat.le_refl _) _)
      have hgxb : w2.heap.size ≤ xb := by rw [hbxb]; exact hBw3.size
      clear hWw4 hbxb
      have hB24 : Below w2.heap.size w2 w4 := hBw3.trans (hBw4.mono hBw3.size)
      have hr2hb : w4.heap[hb]? = _ := (hBw4.block _ (Array.getElem?_eq_some_iff.1 hrhb).1).trans hrhb
      refine hK _ _ (H1.out.2.1.below (H2.out.trans (hB24.mono H2.out.size))) ?_
      try simp only [Act.put, List.setIfInBounds_toArray, List.set_cons_zero, List.set_cons_succ]
      have hne : xb ≠ hb := row_ne14 hrxb hr2hb
      have hG4 : w2.heap.size ≤ xb ∧ w2.heap.size ≤ hb := ⟨hgxb, hghb⟩
      obtain ⟨hE5, hr5, hr5h⟩ := back_set hrxb hr2hb hG4.1 hne C
      obtain ⟨hE6, hr6, hr6h⟩ := back_set hr5h hr5 hG4.2 hne.symm (byA ahead)
      refine tkOne 10 rfl (by decide +kernel) rfl (fun K hK => ?_)
      refine wp_store_row 25 (.tmp 3) (.tmp 22) rfl xb C rfl rfl 25 ZR hrxb (by rw [HS.out.1]; kernel_rfl) (by rw [HS.out.1, HS.out.2.1]) HS.out.2.2.1 ?_
      refine hK _ _ (H1.out.2.1.below (H2.out.trans ((hB24.trans hE5).mono H2.out.size))) ?_
      try simp only [Act.put, ]
      refine tkFree (i := 11) rfl (by kernel_rfl) (by kernel_rfl) (by kernel_rfl) (fun _ _ _ h => h) (.inl ⟨by rfl, fun w hSw => by go_simp; rfl⟩) (H1.out.2.1.below (H2.out.trans ((hB24.trans hE5).mono H2.out.size))) ?_
      simp only [Act.put, List.setIfInBounds_toArray, List.set_cons_zero, List.set_cons_succ]
      refine tkOne 12 rfl (by decide +kernel) rfl (fun K hK => ?_)
      refine wp_store_row 23 (.tmp 5) (.tmp 26) rfl hb (byA ahead) rfl rfl 23 ZT hr5h (by rw [HS.out.2.2.2.1]; kernel_rfl) (by rw [HS.out.2.2.2.1, HS.out.2.2.2.2.1]) HS.out.2.2.2.2.2 ?_
      refine hK _ _ (H1.out.2.1.below (H2.out.trans (((hB24.trans hE5).trans hE6).mono H2.out.size))) ?_
      try simp only [Act.put, ]
      refine tkFree (i := 13) rfl (by kernel_rfl) (by kernel_rfl) (by kernel_rfl) (fun _ _ _ h => h) (.inl ⟨by rfl, fun w hSw => by go_simp; rfl⟩) (H1.out.2.1.below (H2.out.trans (((hB24.trans hE5).trans hE6).mono H2.out.size))) ?_
      simp only [Act.put, List.setIfInBounds_toArray, List.set_cons_zero, List.set_cons_succ]
      have HC : Hid (Below w.heap.size w ((w4.setRow xb C).setRow hb (byA ahead)) ∧ ((w4.setRow xb C).setRow hb (byA ahead)).heap[xb]? = some (.cells C 25 (0, 0)) ∧ ((w4.setRow xb C).setRow hb (byA ahead)).heap[hb]? = some (.cells (byA ahead) 23 (0, 0))) :=
        ⟨H1.out.1.trans ((H2.out.trans (((hB24.trans hE5).trans hE6).mono H2.out.size)).mono H1.out.1.size), hr6h, hr6⟩
      obtain ⟨w6, hw6⟩ : ∃ W, W = (w4.setRow xb C).setRow hb (byA ahead) := ⟨_, rfl⟩
      rw [← hw6] at HC ⊢
      refine wpAnyH_done (by kernel_rfl) ?_ _
      clear hgxb hghb hrxb hrhb hBw3 hBw4 hB24 hr2hb hne hG4 hE5 hr5 hr5h hE6 hr6 hr6h hw6 hHeld
      go_wp2_with (fail)
      go_meet
      case rel => exact ⟨xb, hb, rfl, rfl, rfl, rfl, HC.out⟩
  case rest =>
    obtain ⟨xb, hb, rfl, rfl, rfl, rfl, hBc, hrx, hrh⟩ := hcut
    obtain ⟨wd, rfl⟩ : ∃ x, x = wc := ⟨wc, rfl⟩
    have HW : Hid (∀ w', Below wd.heap.size wd w' → (loadVar 25 ⟨xb, 0, none⟩).run Tryd.prog w' = .ok (.agg C) w' ∧ (loadVar 23 ⟨hb, 0, none⟩).run Tryd.prog w' = .ok (.agg (byA ahead)) w' ∧ w'.cell? ⟨xb, 1, none⟩ = some (.int .i64 x.seq) ∧
        ShaOk w' ∧ ItemsAt w' ia x.items ∧ SrcP w' ka key.length key ∧ SrcP w' oa other.length other ∧ Below w.heap.size w w') := by
      refine Lib.hid fun w' h => ?_
      have hB := hBc.trans (h.mono hBc.size)
      have hr : RowR w' xb x.kind x.seq (.slice ia x.items.length ic) x.area x.root := ⟨H1.out.2.2.2.2.1, by rw [← HN.out.2.2.2.1]; exact (h.block _ (Array.getElem?_eq_some_iff.1 hrx).1).trans hrx⟩
      have hd := hr.d5
      have hl := rec_load hr
      rw [← HN.out.2.2.2.1] at hl
      exact ⟨hl, load_row32 H1.out.2.2.2.2.2.2.1 ((h.block _ (Array.getElem?_eq_some_iff.1 hrh).1).trans hrh), hd.2.1, H1.out.2.2.1.below hB, H1.out.2.2.2.1.below hB, HK.out.1.below hB, HO.out.1.below hB, hB⟩
    have HE : Hid (∀ w', Below wd.heap.size wd w' → P (.returned (.bool true)) w') := by
      rw [HN.out.1]
      exact Lib.hid fun w' h => ⟨rfl, (HW.out w' h).2.2.2.2.2.2.2⟩
    clear hBc hrx hrh
    obtain ⟨G, hG⟩ : ∃ G : Nat, G = 50 + greatL x.items := ⟨_, rfl⟩
    have HGr : Hid (Calls Tryd.prog 7 #[.agg C] wd (Below0 wd (.int .i64 (G : Int)))) := by
      rw [HN.out.2.2.2.1, hG]
      exact Lib.hid (rgreat_any wd x ia ic (HW.out wd (Below.refl _ _)).2.2.2.2.1 H1.out.2.2.2.2.1 H1.out.2.2.2.2.2.1)
    have HGe := Lib.hid hG
    clear hG
    have hKN := HK.out.2.1
    have hON := HO.out.2.1
    rw [← HN.out.2.2.2.2.1] at hKN
    rw [← HN.out.2.2.2.2.2] at hON
    have hkm := HK.out.2.2.1
    have hom := HO.out.2.2.1
    have hs9 := HK.out.2.2.2
    rw [← HN.out.2.2.2.2.1, ← HN.out.2.2.2.2.2] at hs9
    have hws : IntKind.i64.wrap ((KN : Int) + (ON : Int)) = (KN : Int) + (ON : Int) := IntWalk.i64_in _ (by omega)
    go_upto_region 4 with (fail)
    refine wp_region_lit ?_
    refine wpList_load_at rfl 25 _ rfl ⟨xb, 0, none⟩ rfl (.agg C) (HW.out wd (Below.refl _ _)).1 ?_
    iterate 2 go_step
    refine HGr.out.mono ?_
    rintro e w3 ⟨rfl, hB3⟩
    have H3 := Lib.hid hB3
    clear hB3 HGr
    by_cases h0 : 2000 < (G : Int)
    · have HQ := Lib.hid (HE.out w3 H3.out)
      dsimp only
      go_wp2_with (fail)
      exact HQ.out
    by_cases h1 : 100 < (KN : Int) + (ON : Int)
    · have HQ := Lib.hid (HE.out w3 H3.out)
      dsimp only
      go_wp2_with (fail)
      exact HQ.out
    dsimp only
    go_upto_region 6 with (fail)
    have HKs : Hid (KN ≤ 100 ∧ ON ≤ 100 ∧ G ≤ 2000 ∧ (∀ y ∈ x.items, y.key.length ≤ 1000000) ∧ x.items.length ≤ 1000000) := by
      have hg := HGe.out
      refine Lib.hid ⟨by omega, by omega, by omega, fun y hy => ?_, ?_⟩
      · have := greatL_mem hy
        omega
      · have := greatL_length x.items
        omega
    clear h0 h1 hws hs9 hkm hom hKN hON
    obtain ⟨p, hp⟩ : ∃ p, p = x.sealed key ahead := ⟨_, rfl⟩
    have hp2 : p.2.length = 32 := by
      rw [hp]
      unfold RecL.sealed
      split
      · exact headL_len _ _
      · exact H1.out.2.2.2.2.2.2.1
    have HSl : Hid (Calls Tryd.prog 20 #[.slice ka KN kc, .agg (byA ahead), .agg C] w3 (SealEnd w3 p)) := by
      have hw := HW.out w3 H3.out
      rw [HN.out.2.2.2.1, HN.out.2.2.2.2.1, hp]
      refine Lib.hid (rseal_any w3 x key ahead ka kc ia ic hw.2.2.2.2.2.1 HK.out.2.1 HK.out.2.2.1 ?_ H1.out.2.2.2.2.2.2.1 hw.2.2.2.2.1 HKs.out.2.2.2.1 HKs.out.2.2.2.2 H1.out.2.2.2.2.1 hw.2.2.2.1)
      have := HKs.out.1
      have := HN.out.2.2.2.2.1
      omega
    have Hp := Lib.hid (And.intro hp hp2)
    clear hp hp2
    refine wp_region_lit ?_
    iterate 3 go_step
    refine wpList_load_at rfl 23 _ rfl ⟨hb, 0, none⟩ rfl (.agg (byA ahead)) (HW.out w3 H3.out).2.1 ?_
    refine wpList_load_at rfl 25 _ rfl ⟨xb, 0, none⟩ rfl (.agg C) (HW.out w3 H3.out).1 ?_
    iterate 2 go_step
    refine HSl.out.mono ?_
    rintro e w4 ⟨sa, sc, rfl, h1, h2, h3, h4, h5⟩
    obtain ⟨sb, hh⟩ := p
    dsimp only at h1 h4
    obtain ⟨SN, hSN⟩ : ∃ n, n = sb.length := ⟨_, rfl⟩
    have H4 : Hid (Below wd.heap.size wd w4 ∧ SrcP w4 sa sb.length sb ∧ sb.length ≤ sc ∧ sc ≤ 9223372036854775807 ∧ (sa = none → sc = 0)) := Lib.hid ⟨H3.out.trans (h5.mono H3.out.size), h4.srcP, h1, h2, h3⟩
    dsimp only
    rw [← hSN]
    have HSN := Lib.hid hSN
    clear h1 h2 h3 h4 h5 HSl hSN
    iterate 16 go_step
    refine wpList_store_row rfl _ (.tmp 8) (.tmp 46) rfl w4.heap.size (byA hh) rfl rfl 23 ZT (heap_alloc_new w4 _) (arr_size _ Hp.out.2) (by rw [HN.out.2.2.1, byA_size, byA_size, Hp.out.2]; rfl) (byA_one _) ?_
    obtain ⟨gb, hgb⟩ : ∃ b, b = w4.heap.size := ⟨_, rfl⟩
    obtain ⟨w5, hw5⟩ : ∃ W, W = (w4.alloc (.cells ZT 23)).setRow w4.heap.size (byA hh) := ⟨_, rfl⟩
    have H5 : Hid (Below wd.heap.size wd w5 ∧ w5.heap[gb]? = some (.cells (byA hh) 23 (0, 0)) ∧ SrcP w5 sa sb.length sb) := by
      have k : Below w4.heap.size w4 w5 := by
        rw [hw5]
        have h1 := (Below.refl _ w4).alloc (Nat.le_refl _) (.cells ZT 23)
        exact h1.trans ⟨rfl, rfl, rfl, by simp, fun k hk => setRow_other _ _ _ _ (by omega)⟩
      refine Lib.hid ⟨H4.out.1.trans (k.mono H4.out.1.size), ?_, H4.out.2.1.below k⟩
      rw [hw5, hgb]
      exact setRow_heap _ _ ZT _ _ _ (heap_alloc_new w4 _)
    rw [← hw5, ← hgb]
    clear hw5 hgb
    have HRi : Hid (Calls Tryd.prog 13 #[.agg C] w5 (Below0 w5 (.bool x.rightB))) := by
      have hw := HW.out w5 H5.out.1
      rw [HN.out.2.2.2.1]
      exact Lib.hid (rright_any w5 x ia ic hw.2.2.2.2.1 HKs.out.2.2.2.1 HKs.out.2.2.2.2 H1.out.2.2.2.2.1)
    go_upto_region 7 with (fail)
    refine wp_region_lit ?_
    refine wpList_load_at rfl 25 _ rfl ⟨xb, 0, none⟩ rfl (.agg C) (HW.out w5 H5.out.1).1 ?_
    iterate 2 go_step
    refine HRi.out.mono ?_
    rintro e w6 ⟨rfl, hB6⟩
    have H6 : Hid (Below wd.heap.size wd w6 ∧ w6.heap[gb]? = some (.cells (byA hh) 23 (0, 0)) ∧ SrcP w6 sa sb.length sb) := Lib.hid ⟨H5.out.1.trans (hB6.mono H5.out.1.size), (hB6.block _ (Array.getElem?_eq_some_iff.1 H5.out.2.1).1).trans H5.out.2.1, H5.out.2.2.below hB6⟩
    have HSc : Hid (sb.length ≤ sc ∧ (sa = none → sc = 0)) := Lib.hid ⟨H4.out.2.2.1, H4.out.2.2.2.2⟩
    clear hB6 HRi H5 H4
    obtain ⟨Rb, hRb⟩ : ∃ r, r = x.rightB := ⟨_, rfl⟩
    rw [← hRb]
    have HRb := Lib.hid hRb
    clear hRb
    dsimp only
    cases Rb with
    | false =>
      have he : sb = [] ∧ hh = ahead := by
        have h := Hp.out.1
        unfold RecL.sealed at h
        rw [if_neg (by rw [← HRb.out]; decide)] at h
        exact ⟨congrArg Prod.fst h, congrArg Prod.snd h⟩
      obtain ⟨rfl, rfl⟩ := he
      have hs0 := HSN.out
      rw [List.length_nil] at hs0
      subst hs0
      go_upto_region 8 with (fail)
      have hhl := Hp.out.2
      have HQ := Lib.hid (HE.out w6 H6.out.1)
      refine wp_region_lit ?_
      iterate 12 go_step
      refine wpList_load_at rfl 23 (.tmp 8) rfl ⟨gb, 0, none⟩ rfl (.agg (byA hh)) (load_row32 hhl H6.out.2.1) ?_
      refine wpList_load_at rfl 23 (.tmp 5) rfl ⟨hb, 0, none⟩ rfl (.agg (byA hh)) (HW.out w6 H6.out.1).2.1 ?_
      refine wpList_eql_root rfl (.tmp 54) (.tmp 55) _ rfl hh hhl rfl rfl ?_
      go_wp2_with (fail)
      exact HQ.out
    | true =>
      have HSB : Hid (sb = sealB key ahead x.body ∧ hh = headL ahead x.body ∧ x.rightB = true ∧ x.body.length ≤ 4096 ∧ sb.length ≤ 4096) := by
        have h := Hp.out.1
        have hr := HRb.out.symm
        unfold RecL.sealed at h
        rw [if_pos hr] at h
        have h1 : sb = sealB key ahead x.body := congrArg Prod.fst h
        have hb := body_small hr H1.out.2.2.2.2.1 (by have := HGe.out; have := HKs.out.2.2.1; omega)
        have hs := seal_small key ahead hb
        have hw := seal_whole key ahead x.body
        rw [← h1] at hs hw
        exact Lib.hid ⟨h1, congrArg Prod.snd h, hr, by omega, by omega⟩
      obtain ⟨BL, hBL⟩ : ∃ n, n = x.blocks := ⟨_, rfl⟩
      have HBL := Lib.hid hBL
      clear hBL
      have HG6 : Hid (∀ w', Below w6.heap.size w6 w' → Below wd.heap.size wd w' ∧ SrcP w' sa sb.length sb) := Lib.hid fun w' h => ⟨H6.out.1.trans (h.mono H6.out.1.size), H6.out.2.2.below h⟩
      go_upto_region 9 with (fail)
      go_cut [9, 10, 11, 12] from 58 to 72 (BackCut9 w6 x hh BL)
      case first =>
        have hdr : Below w6.heap.size w6 w6.drew := (Below.refl _ w6).drew
        refine wp_region_held_drew (S := fun w' => Below w6.heap.size w6 w') (by kernel_rfl) hdr (fun hHeld => ?_)
        clear hdr
        refine tkFree (i := 0) rfl (by kernel_rfl) (by kernel_rfl) (by kernel_rfl) (fun _ _ _ h => h) (.inl ⟨by rfl, fun w hSw => by go_simp; rfl⟩) hHeld ?_
        simp only [Act.put, List.setIfInBounds_toArray, List.set_cons_zero, List.set_cons_succ]
        refine tkFree (i := 1) (v := .agg (byA ahead)) rfl (by kernel_rfl) (by kernel_rfl) (by kernel_rfl) (fun _ _ _ h => h) (yieldsIf_load_at (by rfl) 23 _ rfl ⟨hb, 0, none⟩ rfl (fun w hS => (HW.out w (HG6.out w hS).1).2.1)) hHeld ?_
        simp only [Act.put, List.setIfInBounds_toArray, List.set_cons_zero, List.set_cons_succ]
        refine tkFree (i := 2) rfl (by kernel_rfl) (by kernel_rfl) (by kernel_rfl) (fun _ _ _ h => h) (.inl ⟨by rfl, fun w hSw => by go_simp; rfl⟩) hHeld ?_
        simp only [Act.put, List.setIfInBounds_toArray, List.set_cons_zero, List.set_cons_succ]
        refine tkFree (i := 3) rfl (by kernel_rfl) (by kernel_rfl) (by kernel_rfl) (fun _ _ _ h => h) (.inl ⟨by rfl, fun w hSw => by have d := (HW.out w (HG6.out w hSw).1).2.2.1; go_simp; rfl⟩) hHeld ?_
        simp only [Act.put, List.setIfInBounds_toArray, List.set_cons_zero, List.set_cons_succ]
        refine tkFree (i := 5) rfl (by kernel_rfl) (by kernel_rfl) (by kernel_rfl) (fun _ _ _ h => h) (.inl ⟨by rfl, fun w hSw => by go_simp; rfl⟩) hHeld ?_
        simp only [Act.put, List.setIfInBounds_toArray, List.set_cons_zero, List.set_cons_succ]
        refine tkFree (i := 7) rfl (by kernel_rfl) (by kernel_rfl) (by kernel_rfl) (fun _ _ _ h => h) (.inl ⟨by rfl, fun w hSw => by go_simp; rfl⟩) hHeld ?_
        simp only [Act.put, List.setIfInBounds_toArray, List.set_cons_zero, List.set_cons_succ]
        refine wpAnyH_gen fun A hA => ?_
        have e59 : A.eval (.tmp 59) = .slice ka KN kc := by rw [hA]; rfl
        have e60 : A.eval (.tmp 60) = .agg (byA ahead) := by rw [hA]; rfl
        have e62 : A.eval (.tmp 62) = .int .i64 x.seq := by rw [hA]; rfl
        have e64 : A.eval (.tmp 64) = .slice sa SN sc := by rw [hA]; rfl
        have e66 : A.eval (.tmp 66) = .slice oa ON oc := by rw [hA]; rfl
        change wpAnyH _ _ _ _ _ (12 + 1 + nbO none + nbO none) (L9 false false false false false false false false false (none : Option Value).isSome (none : Option Value).isSome) (putO (putO A 9 none) 10 none) _
        -- join
        -- join
        -- join
        refine join_step (i := 4) (j := 15) (k := 16) (di := 63) (dj := 9) (dk := 10) rfl rfl rfl rfl rfl rfl rfl rfl rfl (by decide) (by decide) (by decide) (L9 false false false false false false false false false) (L9 true false false false false false false false false) 12 (by decide +kernel) (by decide +kernel) (by decide +kernel) (by decide +kernel) (fun _ _ => rfl) (fun _ => rfl) (fun _ => rfl) (A) (fun _ => True) (fun v w' => Own w' w6.heap.size 5 v []) (PQ9 ZR ZT w6.heap.size)
          (fun q w' hI hPQ hS a K hK => wp_alloc_of 25 rfl hzr (hK _ _ (trivial) (hPQ.addR hS.size) (hS.trans (((Below.refl _ w').alloc (Nat.le_refl _) _).mono hS.size))))
          (fun p w' hI hPQ hS a K hK => wp_alloc_of 23 rfl hzt (hK _ _ (trivial) (hPQ.addT hS.size) (hS.trans (((Below.refl _ w').alloc (Nat.le_refl _) _).mono hS.size))))
          ?_ ?_ none none w6.drew trivial (PQ9.empty _ _ _ _) hHeld
        · intro p q w' _ hPQ hS a hX K hK
          have hBa : Below w'.heap.size w' (w'.alloc (.cells #[] 5)) := (Below.refl _ w').alloc (Nat.le_refl _) _
          have HK := Lib.hid (And.intro hPQ (And.intro hS (And.intro hBa (Own.lit w' #[] 5 hS.size (by simp)))))
          clear hPQ hS hBa hX
          go_simp
          exact hK _ _ HK.out.2.2.2 (HK.out.1.below HK.out.2.2.1) (HK.out.2.1.trans (HK.out.2.2.1.mono HK.out.2.1.size))
        · intro v63 p q w' h63 hPQ hS
          refine join_step (i := 6) (j := 15) (k := 16) (di := 65) (dj := 9) (dk := 10) rfl rfl rfl rfl rfl rfl rfl rfl rfl (by decide) (by decide) (by decide) (L9 true false false false false false false false false) (L9 true true false false false false false false false) 11 (by decide +kernel) (by decide +kernel) (by decide +kernel) (by decide +kernel) (fun _ _ => rfl) (fun _ => rfl) (fun _ => rfl) ((A.put (some 63) v63)) (fun w' => Own w' w6.heap.size 5 v63 []) (fun v w' => Own w' w6.heap.size 5 v (sb.map B)) (PQ9 ZR ZT w6.heap.size)
            (fun q w' hI hPQ hS a K hK => wp_alloc_of 25 rfl hzr (hK _ _ (hI.far ((Below.refl _ w').alloc (Nat.le_refl _) _)) (hPQ.addR hS.size) (hS.trans (((Below.refl _ w').alloc (Nat.le_refl _) _).mono hS.size))))
            (fun p w' hI hPQ hS a K hK => wp_alloc_of 23 rfl hzt (hK _ _ (hI.far ((Below.refl _ w').alloc (Nat.le_refl _) _)) (hPQ.addT hS.size) (hS.trans (((Below.refl _ w').alloc (Nat.le_refl _) _).mono hS.size))))
            ?_ ?_ p q w' h63 hPQ hS
          · intro p q w' hI hPQ hS a hX K hK
            have q63 : a.eval (.tmp 63) = v63 := (hX 63 (by decide) (by decide)).trans (by rw [hA]; kernel_rfl)
            have q64 : a.eval (.tmp 64) = .slice sa SN sc := (hX 64 (by decide) (by decide)).trans (by rw [hA]; kernel_rfl)
            refine wp_append_bytes (.tmp 63) (.tmp 64) rfl w6.heap.size v63 [] q63 hI sa sc sb SN HSN.out q64 (HG6.out w' hS).2 (by have := HSB.out.2.2.2.2; simp; omega) hS.size fun v' w'' h1 h2 => ?_
            exact hK _ _ h1 (hPQ.grown hI h2) (hS.trans (below_grown hI h2 hS.size))
          · intro v65 p q w' h65 hPQ hS
            refine join_step (i := 8) (j := 15) (k := 16) (di := 67) (dj := 9) (dk := 10) rfl rfl rfl rfl rfl rfl rfl rfl rfl (by decide) (by decide) (by decide) (L9 true true false false false false false false false) (L9 true true true false false false false false false) 10 (by decide +kernel) (by decide +kernel) (by decide +kernel) (by decide +kernel) (fun _ _ => rfl) (fun _ => rfl) (fun _ => rfl) (((A.put (some 63) v63).put (some 65) v65)) (fun w' => Own w' w6.heap.size 5 v65 (sb.map B)) (fun v w' => Own w' w6.heap.size 5 v ((sb ++ other).map B)) (PQ9 ZR ZT w6.heap.size)
              (fun q w' hI hPQ hS a K hK => wp_alloc_of 25 rfl hzr (hK _ _ (hI.far ((Below.refl _ w').alloc (Nat.le_refl _) _)) (hPQ.addR hS.size) (hS.trans (((Below.refl _ w').alloc (Nat.le_refl _) _).mono hS.size))))
              (fun p w' hI hPQ hS a K hK => wp_alloc_of 23 rfl hzt (hK _ _ (hI.far ((Below.refl _ w').alloc (Nat.le_refl _) _)) (hPQ.addT hS.size) (hS.trans (((Below.refl _ w').alloc (Nat.le_refl _) _).mono hS.size))))
              ?_ ?_ p q w' h65 hPQ hS
            · intro p q w' hI hPQ hS a hX K hK
              have q65 : a.eval (.tmp 65) = v65 := (hX 65 (by decide) (by decide)).trans (by rw [hA]; kernel_rfl)
              have q66 : a.eval (.tmp 66) = .slice oa ON oc := (hX 66 (by decide) (by decide)).trans (by rw [hA]; kernel_rfl)
              refine wp_append_bytes (.tmp 65) (.tmp 66) rfl w6.heap.size v65 _ q65 hI oa oc other ON HN.out.2.2.2.2.2 q66 (HW.out w' (HG6.out w' hS).1).2.2.2.2.2.2.1 (by have := HSB.out.2.2.2.2; have := HKs.out.2.1; have := HN.out.2.2.2.2.2; simp; omega) hS.size fun v' w'' h1 h2 => ?_
              exact hK _ _ (by rw [List.map_append]; exact h1) (hPQ.grown hI h2) (hS.trans (below_grown hI h2 hS.size))
            · intro v67 p q w' h67 hPQ hS
              refine join_step (i := 9) (j := 15) (k := 16) (di := 68) (dj := 9) (dk := 10) rfl rfl rfl rfl rfl rfl rfl rfl rfl (by decide) (by decide) (by decide) (L9 true true true false false false false false false) (L9 true true true true false false false false false) 9 (by decide +kernel) (by decide +kernel) (by decide +kernel) (by decide +kernel) (fun _ _ => rfl) (fun _ => rfl) (fun _ => rfl) ((((A.put (some 63) v63).put (some 65) v65).put (some 67) v67)) (fun w' => Own w' w6.heap.size 5 v67 ((sb ++ other).map B)) (fun v w' => ∃ ya yc, v = (.tuple #[.agg (recC x.kind x.seq (.slice ya x.items.length yc) x.area x.root), .agg (byA hh), .int .i64 (BL : Int), .int .i64 0]) ∧ ItemsAt w' ya x.items) (PQ9 ZR ZT w6.heap.size)
                (fun q w' hI hPQ hS a K hK => wp_alloc_of 25 rfl hzr (hK _ _ (hI.far ((Below.refl _ w').alloc (Nat.le_refl _) _)) (hPQ.addR hS.size) (hS.trans (((Below.refl _ w').alloc (Nat.le_refl _) _).mono hS.size))))
                (fun p w' hI hPQ hS a K hK => wp_alloc_of 23 rfl hzt (hK _ _ (hI.far ((Below.refl _ w').alloc (Nat.le_refl _) _)) (hPQ.addT hS.size) (hS.trans (((Below.refl _ w').alloc (Nat.le_refl _) _).mono hS.size))))
                ?_ ?_ p q w' h67 hPQ hS
              · intro p q w' hI hPQ hS a hX K hK
                have hw := HW.out w' (HG6.out w' hS).1
                obtain ⟨fa, fc, hv67, g1, -, g3, g4⟩ := own_src hI
                obtain ⟨FN, hFN⟩ : ∃ n, n = (sb ++ other).length := ⟨_, rfl⟩
                have HOp : Hid (Calls Tryd.prog 21 #[.slice ka KN kc, .agg (byA ahead), .int .i64 x.seq, .slice fa FN fc] w' (OpenEnd w' (x, hh, BL, 0))) := by
                  have hr := HSB.out
                  have h9 := ropen_any w' key ahead (sb ++ other) x.seq ka kc fa fc hw.2.2.2.2.2.1 HK.out.2.1 HK.out.2.2.1 (by have := HKs.out.1; have := HN.out.2.2.2.2.1; omega) H1.out.2.2.2.2.2.2.1 g4.srcP g1 g3 (by have := HKs.out.2.1; have := HN.out.2.2.2.2.2; simp; omega) hw.2.2.2.1
                  rw [hr.1, openB_seal key ahead other x hr.2.2.1 H1.out.2.2.2.2.1 hr.2.2.2.1, ← hr.2.1, ← HBL.out] at h9
                  rw [HN.out.2.2.2.2.1, hFN, hr.1]
                  exact Lib.hid h9
                rw [← hFN] at hv67
                have r59 : a.eval (.tmp 59) = .slice ka KN kc := (hX 59 (by decide) (by decide)).trans (by rw [hA]; kernel_rfl)
                have r60 : a.eval (.tmp 60) = .agg (byA ahead) := (hX 60 (by decide) (by decide)).trans (by rw [hA]; kernel_rfl)
                have r62 : a.eval (.tmp 62) = .int .i64 x.seq := (hX 62 (by decide) (by decide)).trans (by rw [hA]; kernel_rfl)
                have r67 : a.eval (.tmp 67) = .slice fa FN fc := ((hX 67 (by decide) (by decide)).trans (show _ = v67 by rw [hA]; kernel_rfl)).trans hv67
                have q59 := ev_of r59
                have q60 := ev_of r60
                have q62 := ev_of r62
                have q67 := ev_of r67
                have HX9 := Lib.hid (And.intro hPQ hS)
                clear hFN hw hX hI hPQ hS hv67 g1 g3 g4 r59 r60 r62 r67
                go_simp
                refine HOp.out.mono ?_
                rintro e w'' ⟨ya, yc, rfl, g1, -, -, g4⟩
                exact hK _ _ ⟨ya, yc, rfl, g1⟩ (HX9.out.1.below g4) (HX9.out.2.trans (g4.mono HX9.out.2.size))
              · rintro v68 p q w' ⟨ya, yc, rfl, hI0⟩ hPQ hS
                refine tkFreeO (i := 10) (di := 58) (dj := 9) (dk := 10) (v := (.tuple #[.agg (recC x.kind x.seq (.slice ya x.items.length yc) x.area x.root), .agg (byA hh), .int .i64 (BL : Int), .int .i64 0])) (fu := 8) (L9 true true true true false false false false false) (L9 true true true true true false false false false) ((((A.put (some 63) v63).put (some 65) v65).put (some 67) v67).put (some 68) (.tuple #[.agg (recC x.kind x.seq (.slice ya x.items.length yc) x.area x.root), .agg (byA hh), .int .i64 (BL : Int), .int .i64 0])) p q w' rfl rfl (by decide) (by decide) (by kernel_rfl) (by decide +kernel) (by decide +kernel) (fun _ _ => rfl) (fun _ _ _ h => h) (fun a hX => yieldsIf_move rfl (.tmp 68) rfl ((hX 68 (by decide) (by decide)).trans (by rw [hA]; kernel_rfl))) hS ?_
                refine tkFreeO (i := 11) (di := 69) (dj := 9) (dk := 10) (v := (.agg (recC x.kind x.seq (.slice ya x.items.length yc) x.area x.root))) (fu := 7) (L9 true true true true true false false false false) (L9 true true true true true true false false false) (((((A.put (some 63) v63).put (some 65) v65).put (some 67) v67).put (some 68) (.tuple #[.agg (recC x.kind x.seq (.slice ya x.items.length yc) x.area x.root), .agg (byA hh), .int .i64 (BL : Int), .int .i64 0])).put (some 58) (.tuple #[.agg (recC x.kind x.seq (.slice ya x.items.length yc) x.area x.root), .agg (byA hh), .int .i64 (BL : Int), .int .i64 0])) p q w' rfl rfl (by decide) (by decide) (by kernel_rfl) (by decide +kernel) (by decide +kernel) (fun _ _ => rfl) (fun _ _ _ h => h) (fun a hX => yieldsIf_extract rfl (.tmp 58) 0 rfl (vs := #[.agg (recC x.kind x.seq (.slice ya x.items.length yc) x.area x.root), .agg (byA hh), .int .i64 (BL : Int), .int .i64 0]) ((hX 58 (by decide) (by decide)).trans (by rw [hA]; kernel_rfl)) rfl) hS ?_
                refine tkFreeO (i := 12) (di := 70) (dj := 9) (dk := 10) (v := (.agg (byA hh))) (fu := 6) (L9 true true true true true true false false false) (L9 true true true true true true true false false) ((((((A.put (some 63) v63).put (some 65) v65).put (some 67) v67).put (some 68) (.tuple #[.agg (recC x.kind x.seq (.slice ya x.items.length yc) x.area x.root), .agg (byA hh), .int .i64 (BL : Int), .int .i64 0])).put (some 58) (.tuple #[.agg (recC x.kind x.seq (.slice ya x.items.length yc) x.area x.root), .agg (byA hh), .int .i64 (BL : Int), .int .i64 0])).put (some 69) (.agg (recC x.kind x.seq (.slice ya x.items.length yc) x.area x.root))) p q w' rfl rfl (by decide) (by decide) (by kernel_rfl) (by decide +kernel) (by decide +kernel) (fun _ _ => rfl) (fun _ _ _ h => h) (fun a hX => yieldsIf_extract rfl (.tmp 58) 1 rfl (vs := #[.agg (recC x.kind x.seq (.slice ya x.items.length yc) x.area x.root), .agg (byA hh), .int .i64 (BL : Int), .int .i64 0]) ((hX 58 (by decide) (by decide)).trans (by rw [hA]; kernel_rfl)) rfl) hS ?_
                refine tkFreeO (i := 13) (di := 71) (dj := 9) (dk := 10) (v := (.int .i64 (BL : Int))) (fu := 5) (L9 true true true true true true true false false) (L9 true true true true true true true true false) (((((((A.put (some 63) v63).put (some 65) v65).put (some 67) v67).put (some 68) (.tuple #[.agg (recC x.kind x.seq (.slice ya x.items.length yc) x.area x.root), .agg (byA hh), .int .i64 (BL : Int), .int .i64 0])).put (some 58) (.tuple #[.agg (recC x.kind x.seq (.slice ya x.items.length yc) x.area x.root), .agg (byA hh), .int .i64 (BL : Int), .int .i64 0])).put (some 69) (.agg (recC x.kind x.seq (.slice ya x.items.length yc) x.area x.root))).put (some 70) (.agg (byA hh))) p q w' rfl rfl (by decide) (by decide) (by kernel_rfl) (by decide +kernel) (by decide +kernel) (fun _ _ => rfl) (fun _ _ _ h => h) (fun a hX => yieldsIf_extract rfl (.tmp 58) 2 rfl (vs := #[.agg (recC x.kind x.seq (.slice ya x.items.length yc) x.area x.root), .agg (byA hh), .int .i64 (BL : Int), .int .i64 0]) ((hX 58 (by decide) (by decide)).trans (by rw [hA]; kernel_rfl)) rfl) hS ?_
                refine tkFreeO (i := 14) (di := 72) (dj := 9) (dk := 10) (v := (.int .i64 0)) (fu := 4) (L9 true true true true true true true true false) (L9 true true true true true true true true true) ((((((((A.put (some 63) v63).put (some 65) v65).put (some 67) v67).put (some 68) (.tuple #[.agg (recC x.kind x.seq (.slice ya x.items.length yc) x.area x.root), .agg (byA hh), .int .i64 (BL : Int), .int .i64 0])).put (some 58) (.tuple #[.agg (recC x.kind x.seq (.slice ya x.items.length yc) x.area x.root), .agg (byA hh), .int .i64 (BL : Int), .int .i64 0])).put (some 69) (.agg (recC x.kind x.seq (.slice ya x.items.length yc) x.area x.root))).put (some 70) (.agg (byA hh))).put (some 71) (.int .i64 (BL : Int))) p q w' rfl rfl (by decide) (by decide) (by kernel_rfl) (by decide +kernel) (by decide +kernel) (fun _ _ => rfl) (fun _ _ _ h => h) (fun a hX => yieldsIf_extract rfl (.tmp 58) 3 rfl (vs := #[.agg (recC x.kind x.seq (.slice ya x.items.length yc) x.area x.root), .agg (byA hh), .int .i64 (BL : Int), .int .i64 0]) ((hX 58 (by decide) (by decide)).trans (by rw [hA]; kernel_rfl)) rfl) hS ?_
                refine join_end (j := 15) (k := 16) (dj := 9) (dk := 10) rfl rfl rfl rfl rfl rfl (by decide) (L9 true true true true true true true true true) 4 (by decide +kernel) (by decide +kernel) (by decide +kernel) (fun _ => rfl) (fun _ => rfl) (((((((((A.put (some 63) v63).put (some 65) v65).put (some 67) v67).put (some 68) (.tuple #[.agg (recC x.kind x.seq (.slice ya x.items.length yc) x.area x.root), .agg (byA hh), .int .i64 (BL : Int), .int .i64 0])).put (some 58) (.tuple #[.agg (recC x.kind x.seq (.slice ya x.items.length yc) x.area x.root), .agg (byA hh), .int .i64 (BL : Int), .int .i64 0])).put (some 69) (.agg (recC x.kind x.seq (.slice ya x.items.length yc) x.area x.root))).put (some 70) (.agg (byA hh))).put (some 71) (.int .i64 (BL : Int))).put (some 72) (.int .i64 0)) (fun w' => ItemsAt w' ya x.items) (PQ9 ZR ZT w6.heap.size)
                  (fun q w' hI hPQ hS a K hK => wp_alloc_of 25 rfl hzr (hK _ _ (hI.below ((Below.refl _ w').alloc (Nat.le_refl _) _)) (hPQ.addR hS.size) (hS.trans (((Below.refl _ w').alloc (Nat.le_refl _) _).mono hS.size))))
                  (fun p w' hI hPQ hS a K hK => wp_alloc_of 23 rfl hzt (hK _ _ (hI.below ((Below.refl _ w').alloc (Nat.le_refl _) _)) (hPQ.addT hS.size) (hS.trans (((Below.refl _ w').alloc (Nat.le_refl _) _).mono hS.size))))
                  ?_ p q w' hI0 hPQ hS
                clear hI0 hPQ hS
                intro v u w7 hI hPQ hS
                obtain ⟨yb, rfl, hyb, hry⟩ := hPQ.1 v rfl
                obtain ⟨qb, rfl, hqb, hrq⟩ := hPQ.2 u rfl
                obtain ⟨YC, hYC⟩ : ∃ z, z = recC x.kind x.seq (.slice ya x.items.length yc) x.area x.root := ⟨_, rfl⟩
                rw [← hYC]
                have HYC : Hid (YC.size = 36 ∧ YC.all (·.oneCell') = true ∧ ∀ (j : Nat) t, YC[j]? ≠ some (Value.string t)) := by
                  rw [hYC]
                  exact Lib.hid ⟨recC_size H1.out.2.2.2.2.1, recC_one _ rfl, recC_nostr fun s h => by cases h⟩
                have hne : yb ≠ qb := row_ne14 hry hrq
                obtain ⟨hE5, hr5, hr5h⟩ := back_set (w0 := w6) hry hrq hyb hne YC
                obtain ⟨hE6, hr6, hr6h⟩ := back_set (w0 := w6) hr5h hr5 hqb hne.symm (byA hh)
                have hS5 := hS.trans hE5
                have hS6 := hS5.trans hE6
                have hI5 : ItemsAt (w7.setRow yb YC) ya x.items := hI.other hry (by rw [HN.out.2.1]; exact recC_nostr fun s h => by cases h) fun k hk _ => setRow_other w7 yb k YC hk
                have hI6 : ItemsAt ((w7.setRow yb YC).setRow qb (byA hh)) ya x.items := hI5.other hr5h (by rw [HN.out.2.2.1]; exact byA_nostr _) fun k hk _ => setRow_other _ qb k _ hk
                rw [hA]
                simp only [Act.put, List.setIfInBounds_toArray, List.set_cons_zero, List.set_cons_succ]
                refine tkOne 17 rfl (by decide +kernel) rfl (fun K hK => ?_)
                refine wp_store_row 25 (.tmp 9) (.tmp 69) rfl yb YC rfl rfl 25 ZR hry (by rw [HYC.out.1]; kernel_rfl) (by rw [HYC.out.1, HN.out.2.1, zeroC_size]) HYC.out.2.1 ?_
                refine hK _ _ hS5 ?_
                try simp only [Act.put, ]
                refine tkOne 18 rfl (by decide +kernel) rfl (fun K hK => ?_)
                refine wp_store_row 23 (.tmp 10) (.tmp 70) rfl qb (byA hh) rfl rfl 23 ZT hr5h (arr_size _ Hp.out.2) (by rw [HN.out.2.2.1, byA_size, byA_size, Hp.out.2]; rfl) (byA_one _) ?_
                refine hK _ _ hS6 ?_
                try simp only [Act.put, ]
                have HC : Hid (Below w6.heap.size w6 ((w7.setRow yb YC).setRow qb (byA hh)) ∧ ((w7.setRow yb YC).setRow qb (byA hh)).heap[yb]? = some (.cells YC 25 (0, 0)) ∧ ((w7.setRow yb YC).setRow qb (byA hh)).heap[qb]? = some (.cells (byA hh) 23 (0, 0)) ∧ ItemsAt ((w7.setRow yb YC).setRow qb (byA hh)) ya x.items) := ⟨hS6, hr6h, hr6, hI6⟩
                obtain ⟨w8, hw8⟩ : ∃ W, W = (w7.setRow yb YC).setRow qb (byA hh) := ⟨_, rfl⟩
                rw [← hw8] at HC hS6 ⊢
                refine tkFree (i := 19) rfl (by kernel_rfl) (by kernel_rfl) (by kernel_rfl) (fun _ _ _ h => h) (.inl ⟨by rfl, fun w hSw => by go_simp; rfl⟩) hS6 ?_
                simp only [Act.put, List.setIfInBounds_toArray, List.set_cons_zero, List.set_cons_succ]
                refine tkFree (i := 20) rfl (by kernel_rfl) (by kernel_rfl) (by kernel_rfl) (fun _ _ _ h => h) (.inl ⟨by rfl, fun w hSw => by go_simp; rfl⟩) hS6 ?_
                simp only [Act.put, List.setIfInBounds_toArray, List.set_cons_zero, List.set_cons_succ]
                refine wpAnyH_done (by kernel_rfl) ?_ _
                have HYc := Lib.hid hYC
                clear hA e59 e60 e62 e64 e66 hI hPQ hS hyb hry hqb hrq hYC hne hE5 hr5 hr5h hE6 hr6 hr6h hS5 hS6 hI5 hI6 hw8 hHeld
                go_wp2_with (fail)
                go_meet
                case rel => exact ⟨yb, qb, ya, yc, rfl, rfl, rfl, rfl, HC.out.1, by rw [← HYc.out]; exact HC.out.2.1, HC.out.2.2⟩
      case rest =>
        obtain ⟨yb, qb, ya, yc, rfl, rfl, rfl, rfl, hB9, hry, hrq, hIy⟩ := hcut
        obtain ⟨w9, rfl⟩ : ∃ x, x = wc := ⟨wc, rfl⟩
        obtain ⟨YC, hYC⟩ : ∃ z, z = recC x.kind x.seq (.slice ya x.items.length yc) x.area x.root := ⟨_, rfl⟩
        rw [← hYC] at hry
        have HYC := Lib.hid hYC
        have HV : Hid (∀ w', Below w9.heap.size w9 w' → Below wd.heap.size wd w' ∧ SrcP w' sa sb.length sb ∧ (loadVar 25 ⟨yb, 0, none⟩).run Tryd.prog w' = .ok (.agg YC) w' ∧ (loadVar 23 ⟨qb, 0, none⟩).run Tryd.prog w' = .ok (.agg (byA hh)) w' ∧
            (loadVar 23 ⟨gb, 0, none⟩).run Tryd.prog w' = .ok (.agg (byA hh)) w' ∧ ItemsAt w' ya x.items) := by
          refine Lib.hid fun w' h => ?_
          have hB := hB9.trans (h.mono hB9.size)
          have hr : RowR w' yb x.kind x.seq (.slice ya x.items.length yc) x.area x.root := ⟨H1.out.2.2.2.2.1, by rw [← hYC]; exact (h.block _ (Array.getElem?_eq_some_iff.1 hry).1).trans hry⟩
          have hl := rec_load hr
          rw [← hYC] at hl
          exact ⟨(HG6.out w' hB).1, (HG6.out w' hB).2, hl, load_row32 Hp.out.2 ((h.block _ (Array.getElem?_eq_some_iff.1 hrq).1).trans hrq), load_row32 Hp.out.2 ((hB.block _ (Array.getElem?_eq_some_iff.1 H6.out.2.1).1).trans H6.out.2.1), hIy.below h⟩
        clear hYC hB9 hry hrq hIy
        have hseq : 1 ≤ x.seq ∧ x.seq ≤ 1099511627776 := (right_parts HSB.out.2.2.1).1
        have hws : IntKind.i64.wrap (x.seq + 1) = x.seq + 1 := IntWalk.i64_in _ (by omega)
        have d1 := (HW.out w9 (HV.out w9 (Below.refl _ _)).1).2.2.1
        have HOq : Hid (Calls Tryd.prog 21 #[.slice ka KN kc, .agg (byA ahead), .int .i64 (x.seq + 1), .slice sa SN sc] w9 (OpenEnd w9 (zeroR, ahead, 0, 40))) := by
          have hv := HV.out w9 (Below.refl _ _)
          have hw := HW.out w9 hv.1
          have hr := HSB.out
          have h9 := ropen_any w9 key ahead sb (x.seq + 1) ka kc sa sc hw.2.2.2.2.2.1 HK.out.2.1 HK.out.2.2.1 (by have := HKs.out.1; have := HN.out.2.2.2.2.1; omega) H1.out.2.2.2.2.2.2.1 hv.2.1 HSc.out.1 HSc.out.2 (by omega) hw.2.2.2.1
          rw [hr.1, openB_other key ahead x (x.seq + 1) (by omega) hr.2.2.1 H1.out.2.2.2.2.1 hr.2.2.2.1] at h9
          rw [HN.out.2.2.2.2.1, HSN.out, hr.1]
          exact Lib.hid h9
        go_upto_region 10 with (fail)
        refine wp_region_lit ?_
        iterate 3 go_step
        refine wpList_load_at rfl 23 (.tmp 5) rfl ⟨hb, 0, none⟩ rfl (.agg (byA ahead)) (HW.out w9 (HV.out w9 (Below.refl _ _)).1).2.1 ?_
        iterate 14 go_step
        refine HOq.out.mono ?_
        rintro e w10 ⟨na, nc, rfl, -, -, -, hB10⟩
        have H10 := Lib.hid hB10
        clear hB10 HOq d1 hws
        obtain ⟨NC, hNC⟩ : ∃ z, z = recC zeroR.kind zeroR.seq (.slice na zeroR.items.length nc) zeroR.area zeroR.root := ⟨_, rfl⟩
        dsimp only
        rw [← hNC]
        have HNC := Lib.hid hNC
        clear hNC
        iterate 22 go_step
        obtain ⟨z1, z2, z3, z4, z5⟩ := two_new w10 ZR ZT NC (byA ahead)
        refine wpList_store_row rfl _ (.tmp 13) (.tmp 81) rfl w10.heap.size NC rfl rfl 25 ZR z1 (by rw [HNC.out]; exact rec_size _ _ _ _ _ zeroH_len) (by rw [HNC.out, HN.out.2.1, zeroC_size]; exact (recC_size zeroH_len).symm) (by rw [HNC.out]; exact recC_one _ rfl) ?_
        refine wpList_store_row rfl _ (.tmp 14) (.tmp 82) rfl (w10.heap.size + 1) (byA ahead) rfl rfl 23 ZT z2 (arr_size _ H1.out.2.2.2.2.2.2.1) (by rw [HN.out.2.2.1, byA_size, byA_size, H1.out.2.2.2.2.2.2.1]; rfl) (byA_one _) ?_
        obtain ⟨w11, hw11⟩ : ∃ W, W = (((w10.alloc (.cells ZR 25)).alloc (.cells ZT 23)).setRow w10.heap.size NC).setRow (w10.heap.size + 1) (byA ahead) := ⟨_, rfl⟩
        rw [← hw11] at z5
        have H11 : Hid (Below w9.heap.size w9 w11) := Lib.hid (H10.out.trans (z5.mono H10.out.size))
        rw [← hw11]
        clear hw11 z1 z2 z3 z4 z5
        iterate 6 go_step
        have HSt : Hid (Calls Tryd.prog 20 #[.slice ka KN kc, .agg (byA ahead), .agg YC] w11 (SealEnd w11 (sb, hh))) := by
          have hv := HV.out w11 H11.out
          have hw := HW.out w11 hv.1
          rw [HN.out.2.2.2.2.1, HYC.out, Hp.out.1]
          refine Lib.hid (rseal_any w11 x key ahead ka kc ya yc hw.2.2.2.2.2.1 HK.out.2.1 HK.out.2.2.1 ?_ H1.out.2.2.2.2.2.2.1 hv.2.2.2.2.2 HKs.out.2.2.2.1 HKs.out.2.2.2.2 H1.out.2.2.2.2.1 hw.2.2.2.1)
          have := HKs.out.1
          have := HN.out.2.2.2.2.1
          omega
        go_upto_region 11 with (fail)
        refine wp_region_lit ?_
        iterate 3 go_step
        refine wpList_load_at rfl 23 (.tmp 5) rfl ⟨hb, 0, none⟩ rfl (.agg (byA ahead)) (HW.out w11 (HV.out w11 H11.out).1).2.1 ?_
        refine wpList_load_at rfl 25 (.tmp 9) rfl ⟨yb, 0, none⟩ rfl (.agg YC) (HV.out w11 H11.out).2.2.1 ?_
        iterate 2 go_step
        refine HSt.out.mono ?_
        rintro e w12 ⟨ta, tc, rfl, h1, h2, h3, h4, h5⟩
        dsimp only at h1 h4
        have H12 : Hid (Below w9.heap.size w9 w12 ∧ SrcP w12 ta sb.length sb) := Lib.hid ⟨H11.out.trans (h5.mono H11.out.size), h4.srcP⟩
        dsimp only
        rw [← HSN.out]
        clear h1 h2 h3 h4 h5 HSt
        iterate 16 go_step
        refine wpList_store_row rfl _ (.tmp 18) (.tmp 91) rfl w12.heap.size (byA hh) rfl rfl 23 ZT (heap_alloc_new w12 _) (arr_size _ Hp.out.2) (by rw [HN.out.2.2.1, byA_size, byA_size, Hp.out.2]; rfl) (byA_one _) ?_
        obtain ⟨w13, hw13⟩ : ∃ W, W = (w12.alloc (.cells ZT 23)).setRow w12.heap.size (byA hh) := ⟨_, rfl⟩
        have H13 : Hid (Below w9.heap.size w9 w13 ∧ SrcP w13 ta sb.length sb) := by
          have k : Below w12.heap.size w12 w13 := by
            rw [hw13]
            have h1 := (Below.refl _ w12).alloc (Nat.le_refl _) (.cells ZT 23)
            exact h1.trans ⟨rfl, rfl, rfl, by simp, fun k hk => setRow_other _ _ _ _ (by omega)⟩
          exact Lib.hid ⟨H12.out.1.trans (k.mono H12.out.1.size), H12.out.2.below k⟩
        rw [← hw13]
        clear hw13
        have HSm : Hid (Calls Tryd.prog 16 #[.agg C, .agg YC] w13 (Below0 w13 (.bool true))) := by
          have hv := HV.out w13 H13.out.1
          have hw := HW.out w13 hv.1
          have h := rsame_any w13 x x ia ya ic yc hw.2.2.2.2.1 hv.2.2.2.2.2 H1.out.2.2.2.2.1 H1.out.2.2.2.2.1 (by have := HKs.out.2.2.2.2; omega)
          rw [sameR_iff.2 rfl] at h
          rw [HN.out.2.2.2.1, HYC.out]
          exact Lib.hid h
        go_upto_region 12 with (fail)
        refine wp_region_lit ?_
        iterate 9 go_step
        refine wpList_load_at rfl 25 (.tmp 3) rfl ⟨xb, 0, none⟩ rfl (.agg C) (HW.out w13 (HV.out w13 H13.out.1).1).1 ?_
        refine wpList_load_at rfl 25 (.tmp 9) rfl ⟨yb, 0, none⟩ rfl (.agg YC) (HV.out w13 H13.out.1).2.2.1 ?_
        go_step
        refine HSm.out.mono ?_
        rintro e w14 ⟨rfl, hB14⟩
        have H14 : Hid (Below w9.heap.size w9 w14 ∧ SrcP w14 ta sb.length sb) := Lib.hid ⟨H13.out.1.trans (hB14.mono H13.out.1.size), H13.out.2.below hB14⟩
        clear hB14 HSm
        dsimp only
        iterate 7 go_step
        refine wpList_load_at rfl 23 (.tmp 10) rfl ⟨qb, 0, none⟩ rfl (.agg (byA hh)) (HV.out w14 H14.out.1).2.2.2.1 ?_
        refine wpList_load_at rfl 23 (.tmp 8) rfl ⟨gb, 0, none⟩ rfl (.agg (byA hh)) (HV.out w14 H14.out.1).2.2.2.2.1 ?_
        refine wpList_eql_root rfl (.tmp 100) (.tmp 101) _ rfl hh Hp.out.2 rfl rfl ?_
        have hbl : BL = SN / 128 := by rw [HBL.out, HSN.out, HSB.out.1, blocks_seal key ahead HSB.out.2.2.1]
        have hq : Int.tdiv (SN : Int) 128 = (BL : Int) := by
          rw [Int.tdiv_eq_ediv_of_nonneg (by omega), hbl]
          rfl
        have hqw : IntKind.i64.wrap (BL : Int) = (BL : Int) := IntWalk.i64_in _ (by have := HSB.out.2.2.2.2; have := HSN.out; omega)
        clear hbl
        iterate 24 go_step
        have HSz : Hid (Calls Tryd.prog 15 #[.agg C] w14 (Below0 w14 (.int .i64 (BL : Int)))) := by
          have hw := HW.out w14 (HV.out w14 H14.out.1).1
          rw [HN.out.2.2.2.1, HBL.out]
          exact Lib.hid (rsize_any w14 x ia ic hw.2.2.2.2.1 HKs.out.2.2.2.1 HKs.out.2.2.2.2 H1.out.2.2.2.2.1)
        refine wpList_load_at rfl 25 (.tmp 3) rfl ⟨xb, 0, none⟩ rfl (.agg C) (HW.out w14 (HV.out w14 H14.out.1).1).1 ?_
        go_step
        refine HSz.out.mono ?_
        rintro e w15 ⟨rfl, hB15⟩
        have hcv1 : (convert 26 9 (.slice ta SN tc)).run Tryd.prog w15 = .ok (.string (strOf sb)) w15 := by
          have := run_conv_str w15 ta tc sb (H14.out.2.below hB15)
          rw [← HSN.out] at this
          exact this
        have hcv2 : (convert 26 9 (.slice sa SN sc)).run Tryd.prog w15 = .ok (.string (strOf sb)) w15 := by
          have := run_conv_str w15 sa sc sb ((HV.out w14 H14.out.1).2.1.below hB15)
          rw [← HSN.out] at this
          exact this
        have HQ := Lib.hid (HE.out w15 (HV.out w15 (H14.out.1.trans (hB15.mono H14.out.1.size))).1)
        clear hB15 HSz
        dsimp only
        go_wp2_with (fail)
        exact HQ.out
end Go.Proofs.YtdmnhgbdeifpbaaDoor
