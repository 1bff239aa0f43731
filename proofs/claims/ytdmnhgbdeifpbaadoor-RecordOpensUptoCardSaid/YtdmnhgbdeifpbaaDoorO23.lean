/-
  Part 23 of 42 of what the proof leans on.
-/
import Derived.Test.YtdmnhgbdeifpbaaDoorO22
namespace Go.Proofs.YtdmnhgbdeifpbaaDoor
open Go Go.RowKit
def zeroC : Array Value := recC 0 0 (.slice none 0 0) 0 zeroH
theorem zero_rec : (∀ w, (zeroValue 25).run Tryd.prog w = .ok (.agg zeroC) w) ∧ Tryd.prog.built 25 [] = some zeroC := by
  constructor
  · rw [show zeroC = (#[.int .i64 0, .int .i64 0, .slice none 0 0, .int .i64 0] ++ Array.replicate 32 (.int .u8 0)) by kernel_rfl]
    exact (zero_of_info (n := 36) (by kernel_rfl)).1
  · kernel_rfl
theorem built_two (k s : Int) : Tryd.prog.built 25 [(0, .int .i64 k), (1, .int .i64 s)] = some (recC k s (.slice none 0 0) 0 zeroH) := by kernel_rfl
theorem zeroC_size : zeroC.size = 36 := by kernel_rfl
theorem recC_size {k s a : Int} {iv : Value} {r : List (BitVec 8)} (h : r.length = 32) : (recC k s iv a r).size = 36 := by simp [recC, byA, h]
def RecEnd (w : World) (p : RecL × Int) (e : Ending) (w' : World) : Prop :=
  ∃ ia ic, e = .returned (.tuple #[.agg (recC p.1.kind p.1.seq (.slice ia p.1.items.length ic) p.1.area p.1.root), .int .i64 p.2]) ∧ ItemsAt w' ia p.1.items ∧ p.1.root.length = 32 ∧ Below w.heap.size w w'
theorem results_cell_tmp {P : Program} {fn : Func} {p s : Tmp} {ty : TypeId} (h : fn.results = #[.cell p ty, .tmp s]) (tmps : Array Value) (w : World) (g : Nat) (t : TypeId) (cs : Array Value) (fr : Nat × Nat) (d : TypeDesc)
    (hp : tmps.getD p undef = .pointer (some ⟨g, 0, none⟩)) (hg : w.heap[g]? = some (.cells cs t fr)) (hd : P.underlying ty = some d) (ha : (match d with | .struct _ | .array _ _ => true | _ => false) = true) (hi : (P.info? ty).map (·.size) = some cs.size) :
    (results fn tmps).run P w = .ok (.tuple #[.agg cs, tmps.getD s undef]) w := by
  have hp' : tmps[p]?.getD undef = .pointer (some ⟨g, 0, none⟩) := by simpa using hp
  simp [results, h, hp', asAddr, run_loadVar_row w g t ty cs fr d hg hd ha hi]
theorem ownI_items {w : World} {base : Nat} {v : Value} {l : List ItemL} (h : OwnI w base v l) : ∃ a c, v = .slice a l.length c ∧ ItemsAt w a l := h.form
theorem items_apart {w w' : World} {a : Option Addr} {l : List ItemL} {b : Nat} {cs : Array Value} {ty : TypeId} {fr : Nat × Nat} (h : ItemsAt w a l) (hb : w.heap[b]? = some (.cells cs ty fr)) (hn : ∀ (j : Nat) (k : List (BitVec 8)), cs[j]? ≠ some (Sv k))
    (hg : w.grownBy w' (some b)) : ItemsAt w' a l := by
  rcases h with h | ⟨ib, o, ha, h⟩
  · exact .inl h
  · refine .inr ⟨ib, o, ha, fun i x hx j v hv => ?_⟩; refine hg.cell (h i x hx j v hv) ?_; simp only [ne_eq, Option.some.injEq]; intro e; subst e; have hc := h i x hx 1 (Sv x.key) rfl; rw [cell_of_row _ _ _ _ _ _ hb] at hc; exact hn _ _ hc
theorem items_far {w w' : World} {a : Option Addr} {l : List ItemL} {b base : Nat} {t : TapeL} (h : ItemsAt w a l) (hg : w.grownBy w' (some b)) (hR : RdAt base w b t) : ItemsAt w' a l := by
  obtain ⟨ra, rn, rc, hb, -⟩ := hR; refine items_apart h hb (fun j k => ?_) hg
  match j with
  | 0 => simp [Sv]
  | 1 => simp [Sv]
  | j + 2 => simp
theorem zero_no_item (j : Nat) (k : List (BitVec 8)) : zeroC[j]? ≠ some (Sv k) := by
  unfold zeroC
  by_cases hj : j < 4
  · rw [recC_low hj]
    match j, hj with
    | 0, _ => simp [Sv]
    | 1, _ => simp [Sv]
    | 2, _ => simp [Sv]
    | 3, _ => simp [Sv]
  · obtain ⟨i, rfl⟩ : ∃ i, j = 4 + i := ⟨j - 4, by omega⟩
    rw [recC_root]; intro h; simp only [byA, List.getElem?_toArray, List.getElem?_map, Option.map_eq_some_iff] at h; obtain ⟨x, _, h⟩ := h; simp [B, Sv] at h
theorem items_row {w : World} {a : Option Addr} {l : List ItemL} {b : Nat} {cs c' : Array Value} {ty : TypeId} {fr : Nat × Nat} (h : ItemsAt w a l) (hb : w.heap[b]? = some (.cells cs ty fr)) (hn : ∀ (j : Nat) (k : List (BitVec 8)), cs[j]? ≠ some (Sv k)) : ItemsAt (w.setRow b c') a l :=
  items_apart h hb hn (grown_row w b c')
theorem RdAt.apart {base b x : Nat} {w w' : World} {t : TapeL} (h : RdAt base w b t) (hg : w.grownBy w' (some x)) (hx : base ≤ x) (hb : b ≠ x) : RdAt base w' b t :=
  h.same (hg.block b h.lt (by simpa using hb)) fun k hk hkw _ => hg.block k hkw (by simp; omega)
theorem wp_copy_root {o : Oper} {a : Act} {w : World} {K : Act → World → Prop} {Q : Exit → Act → World → Prop} (d x : Operand) (ho : o.op = .call { callee := .builtin .copy, args := #[d, x], argTypes := #[26, 26] }) {b : Nat} {k s ar : Int} {iv : Value} {r m : List (BitVec 8)}
    (h : RowR w b k s iv ar r) {ma : Option Addr} {mc : Nat} (hm : SrcP w ma m.length m) (hl : m.length = 0 ∨ m.length = 32) (hd : a.eval d = .slice (some ⟨b, 4, none⟩) 32 32) (hx : a.eval x = .slice ma m.length mc)
    (hK : ∀ w', RowR w' b k s iv ar (m ++ r.drop m.length) → w.grownBy w' (some b) → K (a.put o.dst (.int .i64 (m.length : Int))) w') : o.wp Tryd.prog a w K Q := by
  obtain ⟨w', hrun, h1, h2⟩ := copy_root h hm hl (mc := mc) o.type; have hrun' : (Builtin.copy_ #[26, 26] o.type #[.slice (some ⟨b, 4, none⟩) 32 32, .slice ma m.length mc]).run Tryd.prog w = .ok (.int .i64 (m.length : Int)) w' := hrun; unfold Oper.wp execOp; simp only [ho, resolve, invoke, builtin, Sem.run_bind, Sem.run_pure, Result.andThen_ok, List.map_toArray, List.map_cons, List.map_nil, hd, hx, hrun']; exact hK w' h1 h2
def RQ (zb xb b base N : Nat) (s : Int) (t3 : TapeL) (W0 : World) (u : Value) (wr : World) : Prop :=
  ∃ (j : Nat) (iv : Value), j ≤ N ∧ u = .int .i64 (j : Int) ∧ OwnI wr (xb + 1) iv (itemsN j t3).1 ∧ RowR wr xb 1 s iv 0 zeroH ∧ RdAt base wr b (itemsN j t3).2 ∧ Below (zb + 1) W0 wr ∧ xb + 1 ≤ wr.heap.size
set_option maxRecDepth 100000 in
set_option maxHeartbeats 4000000 in
theorem rread14_any (w : World) (m : List (BitVec 8)) (ma : Option Addr) (mc : Nat) (hm : SrcP w ma m.length m) (hmc : ma = none → mc = 0) (hml : m.length ≤ 1000000) :
    Calls Tryd.prog 11 #[.slice ma m.length mc] w (RecEnd w (readR m)) := by
  obtain ⟨P, hP⟩ : ∃ P : Ending → World → Prop, P = RecEnd w (readR m) := ⟨_, rfl⟩; rw [← hP]; obtain ⟨ZR, hZR⟩ : ∃ z, z = zeroC := ⟨_, rfl⟩; have hz := zero_rec.1; rw [← hZR] at hz; obtain ⟨M, hM⟩ : ∃ n, n = m.length := ⟨_, rfl⟩; rw [← hM]; obtain ⟨w1, hw1⟩ : ∃ W, W = w.alloc (.cells ZR 25) := ⟨_, rfl⟩; obtain ⟨zb, hzb⟩ : ∃ b, b = w.heap.size := ⟨_, rfl⟩
  have hB1 : Below w.heap.size w w1 := by rw [hw1]; exact (Below.refl _ w).alloc (Nat.le_refl _) _
  have hrz : w1.heap[zb]? = some (.cells ZR 25 (0, 0)) := by rw [hw1, hzb]; exact heap_alloc_new w _
  have hs1 : w1.heap.size = zb + 1 := by rw [hw1, hzb]; simp
  have HRd := Lib.hid (rread_any w1 ma mc M m hM (hm.below hB1) hmc (by omega))
  have H1 := Lib.hid (And.intro hB1 (And.intro hrz (And.intro hs1 (And.intro hzb (And.intro hP hZR))))); clear hm hmc hml hM hB1 hrz hs1 hP hZR
  go_enter Tryd.func11, Tryd.ntmps11
  go_upto_region 1 with (fail)
  rw [← hw1, ← hzb]; clear hw1 hzb; go_wp2_with (fail); refine HRd.out.mono ?_; rintro e w2 ⟨b, rfl, hR, hge, hB2⟩; obtain ⟨base, hbase⟩ : ∃ x, x = w2.heap.size := ⟨_, rfl⟩; rw [← hbase] at hR
  have H2 : Hid (RdAt base w2 b ⟨m, 0⟩ ∧ zb + 1 ≤ b ∧ b < base ∧ Below (zb + 1) w1 w2 ∧ base = w2.heap.size) := by
    have := hR.lt
    exact Lib.hid ⟨hR, by have := H1.out.2.2.1; omega, by omega, by rw [← H1.out.2.2.1]; exact hB2, hbase⟩
  clear hR hge hB2 hbase HRd; dsimp only; obtain ⟨k, hk⟩ : ∃ k, k = ((TapeL.mk m 0).number 9223372036854775807).1 := ⟨_, rfl⟩; obtain ⟨t1, ht1⟩ : ∃ k, k = ((TapeL.mk m 0).number 9223372036854775807).2 := ⟨_, rfl⟩; obtain ⟨s, hs⟩ : ∃ k, k = (t1.number 9223372036854775807).1 := ⟨_, rfl⟩; obtain ⟨t2, ht2⟩ : ∃ k, k = (t1.number 9223372036854775807).2 := ⟨_, rfl⟩; have HN1 := Lib.hid (rnumber_any w2 base b ⟨m, 0⟩ 9223372036854775807 H2.out.1); rw [← hk, ← ht1] at HN1; have HT : Hid (k = ((TapeL.mk m 0).number 9223372036854775807).1 ∧ t1 = ((TapeL.mk m 0).number 9223372036854775807).2 ∧ s = (t1.number 9223372036854775807).1 ∧ t2 = (t1.number 9223372036854775807).2) := Lib.hid ⟨hk, ht1, hs, ht2⟩; clear hk ht1 hs ht2
  go_upto_region 2 with (fail)
  refine wp_region_lit ?_
  iterate 5 go_step
  refine HN1.out.mono ?_; rintro e w3 ⟨rfl, hR3, hg3⟩; have H3 := Lib.hid (And.intro hR3 hg3); have HN2 := rnumber_any w3 base b t1 9223372036854775807 hR3; rw [← HT.out.2.2.1, ← HT.out.2.2.2] at HN2; have HN2 := Lib.hid HN2; clear hR3 hg3 HN1; dsimp only
  iterate 6 go_step
  refine HN2.out.mono ?_; rintro e w4 ⟨rfl, hR4, hg4⟩
  have H4 : Hid (RdAt base w4 b t2 ∧ Below (zb + 1) w1 w4 ∧ base ≤ w4.heap.size) := by
    have hb := H2.out.2.1; have hsz := H2.out.2.2.2.1.size
    have h3 := below_own H2.out.2.2.2.1 hb (by have := H1.out.2.2.1; omega) H3.out.2
    have h4 := below_own h3 hb (by have := h3.size; have := H1.out.2.2.1; omega) hg4
    exact Lib.hid ⟨hR4, h4, by have := H2.out.2.2.2.2; have := H3.out.2.size; have := hg4.size; omega⟩
  clear hR4 hg4 HN2; dsimp only; go_step
  refine wpList_built_at rfl 25 _ rfl (cs := recC k s (.slice none 0 0) 0 zeroH) (by simpa [Act.eval] using built_two k s) ?_
  iterate 3 go_step
  refine wpList_store_row rfl _ _ _ rfl w4.heap.size (recC k s (.slice none 0 0) 0 zeroH) rfl rfl 25 ZR (heap_alloc_new w4 _) (rec_size _ _ _ _ _ (by simp [zeroH])) (by rw [H1.out.2.2.2.2.2, zeroC_size, recC_size (by simp [zeroH])]) (recC_one _ rfl) ?_
  obtain ⟨xb, hxb⟩ : ∃ x, x = w4.heap.size := ⟨_, rfl⟩; obtain ⟨w5, hw5⟩ : ∃ W, W = (w4.alloc (.cells ZR 25)).setRow w4.heap.size (recC k s (.slice none 0 0) 0 zeroH) := ⟨_, rfl⟩
  have H5 : Hid (RowR w5 xb k s (.slice none 0 0) 0 zeroH ∧ RdAt base w5 b t2 ∧ Below (zb + 1) w1 w5 ∧ xb + 1 = w5.heap.size ∧ base ≤ xb ∧ zb + 1 ≤ xb) := by
    have kB : Below w4.heap.size w4 w5 := by
      rw [hw5]; have h1 := (Below.refl _ w4).alloc (Nat.le_refl _) (.cells ZR 25)
      exact h1.trans ⟨rfl, rfl, rfl, by simp, fun k hk => setRow_other _ _ _ _ (by omega)⟩
    have := H4.out.2.1.size; have := H1.out.2.2.1
    refine Lib.hid ⟨⟨by simp [zeroH], by rw [hw5, hxb]; exact setRow_heap _ _ ZR _ _ _ (heap_alloc_new w4 _)⟩, H4.out.1.below kB, H4.out.2.1.trans (kB.mono (by omega)), by rw [hw5, hxb]; simp [World.setRow], by rw [hxb]; exact H4.out.2.2, by omega⟩
  rw [← hw5, ← hxb]; clear hw5 hxb H3 H4
  by_cases hk1 : k = 1
  · subst hk1; obtain ⟨c0, -⟩ := H5.out.1.d5; obtain ⟨n, hn⟩ : ∃ k, k = (t2.number 64).1 := ⟨_, rfl⟩; obtain ⟨t3, ht3⟩ : ∃ k, k = (t2.number 64).2 := ⟨_, rfl⟩; have HN3 := rnumber_any w5 base b t2 64 H5.out.2.1
    have hnr := number_range t2 64 (by decide)
    rw [← hn, ← ht3] at HN3; rw [← hn] at hnr
    obtain ⟨N, rfl⟩ : ∃ N : Nat, n = (N : Int) := ⟨n.toNat, by omega⟩
    have hN64 : N ≤ 64 := by omega
    have HN3 := Lib.hid HN3; have HT3 := Lib.hid (And.intro hn ht3); clear hn ht3 hnr
    have hbx : b ≠ xb := by have := H5.out.2.2.2.2.1; have := H2.out.2.2.1; omega
    go_wp2_with (fail); refine HN3.out.mono ?_; rintro e w6 ⟨rfl, hR6, hg6⟩
    have H6 : Hid (RowR w6 xb 1 s (.slice none 0 0) 0 zeroH ∧ RdAt base w6 b t3 ∧ Below (zb + 1) w1 w6) := Lib.hid ⟨H5.out.1.grown hg6 hbx.symm, hR6, below_own H5.out.2.2.1 H2.out.2.1 (by have := H5.out.2.2.2; omega) hg6⟩
    have HS6 : Hid (xb < w6.heap.size) := Lib.hid H6.out.1.lt; clear hR6 hg6 HN3 c0; dsimp only; go_wp2_with (fail)
    go_loopw [20] (RQ zb xb b base N s t3 w1) (fun u _ => N - (intOf u).toNat)
    case atStart => exact ⟨0, _, Nat.zero_le _, rfl, OwnI.nil _ _, H6.out.1, H6.out.2.1, H6.out.2.2, HS6.out⟩
    case round =>
      obtain ⟨j, iv, hj, rfl, hO, hRw, hRd, hBw, hsz⟩ := hrel; have HR := Lib.hid (And.intro hO (And.intro hRw (And.intro hRd (And.intro hBw hsz)))); clear hO hRw hRd hBw hsz
      by_cases hlt : j < N
      · have hlt' : (j : Int) < (N : Int) := by omega
        obtain ⟨x, hx⟩ : ∃ x, x = (itemsN j t3).2.item.1 := ⟨_, rfl⟩; have HL := Lib.hid (And.intro hlt hx); have hd : Below wr.heap.size wr wr.drew := (Below.refl _ wr).drew
        have HG := eget_any wr.drew base b _ (HR.out.2.2.1.below hd) (show base ≤ wr.heap.size by have := HR.out.2.2.2.2; have := H5.out.2.2.2.2.1; omega)
        rw [← hx] at HG; have HG := Lib.hid HG
        have HD : Hid (OwnI wr.drew (xb + 1) iv (itemsN j t3).1 ∧ RowR wr.drew xb 1 s iv 0 zeroH ∧ Below (zb + 1) w1 wr.drew ∧ xb + 1 ≤ wr.drew.heap.size) := Lib.hid ⟨HR.out.1.far hd, HR.out.2.1.below hd, HR.out.2.2.2.1.trans (hd.mono (by have := HR.out.2.2.2.2; have := H5.out.2.2.2.2.2; omega)), HR.out.2.2.2.2⟩
        have hag : ∀ w, (isAgg 22).run Tryd.prog w = .ok false w := Tryd.isAgg22; clear hlt hx hd
        go_upto_region 7 with (fail)
        refine wp_region_held_drew (S := fun _ => True) (by kernel_rfl) trivial (fun hHeld => ?_)
        refine tkFree (i := 0) (v := .pointer (some ⟨xb, 2, none⟩)) rfl (by kernel_rfl) (by kernel_rfl) (by kernel_rfl) (fun _ _ _ h => h) (.inl ⟨by rfl, fun w hSw => by go_simp⟩) hHeld ?_
        simp only [Act.put, List.setIfInBounds_toArray, List.set_cons_zero, List.set_cons_succ]
        refine tkFree (i := 2) rfl (by kernel_rfl) (by kernel_rfl) (by kernel_rfl) (fun _ _ _ h => h) (.inl ⟨by rfl, fun w hSw => by go_simp; rfl⟩) hHeld ?_
        simp only [Act.put, List.setIfInBounds_toArray, List.set_cons_zero, List.set_cons_succ]; clear hHeld
        refine tkTwo 1 3 rfl rfl (by kernel_rfl) rfl rfl (fun K hK => ?_) (fun K hK => ?_)
        · obtain ⟨-, -, c2, -⟩ := HD.out.2.1.d5; refine wp_loadT (.tmp 22) rfl rfl c2 hag ?_; refine hK _ _ trivial ?_; clear hK c2
          try simp only [Act.put, List.setIfInBounds_toArray, List.set_cons_zero, List.set_cons_succ]
          refine tkOne 3 rfl (by kernel_rfl) rfl (fun K hK => ?_)
          go_simp
          refine HG.out.mono ?_; rintro e w3 ⟨rfl, hR3, hg3⟩
          have H3 : Hid (OwnI w3 (xb + 1) iv (itemsN j t3).1 ∧ RowR w3 xb 1 s iv 0 zeroH ∧ RdAt base w3 b (itemsN j t3).2.item.2 ∧ Below (zb + 1) w1 w3 ∧ xb + 1 ≤ w3.heap.size) := by
            have hb1 := H2.out.2.1; have hb2 := H2.out.2.2.1; have hx1 := H5.out.2.2.2.2.1
            refine Lib.hid ⟨HD.out.1.kept hg3 ?_, HD.out.2.1.grown hg3 hbx.symm, hR3, below_own HD.out.2.2.1 hb1 (by have := HD.out.2.2.2; omega) hg3, Nat.le_trans HD.out.2.2.2 hg3.size⟩
            by_cases hv : iv.ownBlock = none
            · exact .inl hv
            · refine .inr fun e => ?_; have := (HD.out.1.lt e).1; omega
          clear hR3 hg3; refine hK _ _ trivial ?_; clear hK
          try simp only [Act.put, List.setIfInBounds_toArray, List.set_cons_zero, List.set_cons_succ]
          refine tkOne 4 rfl (by kernel_rfl) rfl (fun K hK => ?_)
          refine wp_slice1_I (.tmp 25) rfl x rfl ?_; refine hK _ _ trivial ?_; clear hK; obtain ⟨w4, hw4⟩ : ∃ W, W = w3.alloc (.cells x.cells 53) := ⟨_, rfl⟩; obtain ⟨ib, hib⟩ : ∃ b, b = w3.heap.size := ⟨_, rfl⟩
          have H4 : Hid (OwnI w4 (xb + 1) iv (itemsN j t3).1 ∧ RowR w4 xb 1 s iv 0 zeroH ∧ RdAt base w4 b (itemsN j t3).2.item.2 ∧ Below (zb + 1) w1 w4 ∧ xb + 1 ≤ w4.heap.size ∧ (∀ i z, x.cells[i]? = some z → w4.cell? ⟨ib, i, none⟩ = some z)) := by
            have hB4 : Below w3.heap.size w3 w4 := by rw [hw4]; exact (Below.refl _ w3).alloc (Nat.le_refl _) _
            obtain ⟨g1, g2, g3, g4, g5⟩ := H3.out
            refine Lib.hid ⟨g1.far hB4, g2.below hB4, g3.below hB4, g4.trans (hB4.mono (by have := H5.out.2.2.2.2.2; omega)), Nat.le_trans g5 hB4.size, fun i z hz => ?_⟩
            rw [hw4, hib, cell_of_row _ _ i _ _ _ (heap_alloc_new w3 _)]; exact hz
          rw [← hw4, ← hib]; clear hw4 hib
          try simp only [Act.put, List.setIfInBounds_toArray, List.set_cons_zero, List.set_cons_succ]
          refine tkOne 5 rfl (by kernel_rfl) rfl (fun K hK => ?_)
          refine wp_pushI (.tmp 23) (.tmp 26) rfl (xb + 1) iv (itemsN j t3).1 rfl H4.out.1 x ib rfl H4.out.2.2.2.2.2 (by rw [itemsN_length]; have := HL.out.1; omega) H4.out.2.2.2.2.1 ?_
          intro v' w5' k1 k2; refine hK _ _ trivial ?_; clear hK; obtain ⟨va, vc, hv', -⟩ := ownI_items k1
          have H5' : Hid (OwnI w5' (xb + 1) v' ((itemsN j t3).1 ++ [x]) ∧ RowR w5' xb 1 s iv 0 zeroH ∧ RdAt base w5' b (itemsN j t3).2.item.2 ∧ Below (zb + 1) w1 w5' ∧ xb + 1 ≤ w5'.heap.size) := by
            obtain ⟨g1, g2, g3, g4, g5, -⟩ := H4.out; have hx2 := H5.out.2.2.2.2.2; have hx1 := H5.out.2.2.2.2.1; have hb2 := H2.out.2.2.1
            refine Lib.hid ⟨k1, g2.own k2 (fun e => ?_), g3.same (k2.block b g3.lt fun e => ?_) (fun k hk hkw _ => k2.block k hkw fun e => ?_), g4.trans ⟨k2.os, k2.tape, k2.output, k2.size, fun k hk => k2.block k (by omega) fun e => ?_⟩, Nat.le_trans g5 k2.size⟩
            · have := (g1.lt e).1; omega
            · have := (g1.lt e.symm).1; omega
            · have := (g1.lt e.symm).1; omega
            · have := (g1.lt e.symm).1; omega
          clear k1 k2
          try simp only [Act.put, List.setIfInBounds_toArray, List.set_cons_zero, List.set_cons_succ]
          refine tkFree (i := 6) (v := .pointer (some ⟨xb, 2, none⟩)) rfl (by kernel_rfl) (by kernel_rfl) (by kernel_rfl) (fun _ _ _ h => h) (.inl ⟨by rfl, fun w hSw => by go_simp⟩) trivial ?_
          simp only [Act.put, List.setIfInBounds_toArray, List.set_cons_zero, List.set_cons_succ]
          refine tkOne 7 rfl (by kernel_rfl) rfl (fun K hK => ?_)
          obtain ⟨-, -, c2, -⟩ := H5'.out.2.1.d5
          refine wp_storeT (v := v') (.tmp 28) (.tmp 27) rfl rfl rfl (by rw [hv']; rfl) (by rw [hv']; rfl) Tryd.sizeOf22 c2 (frozen_of_row w5' xb 2 _ _ H5'.out.2.1.2) ?_
          refine hK _ _ trivial ?_; clear hK c2
          try simp only [Act.put, ]
          refine wpAnyH_done (by kernel_rfl) ?_ _
          have HZ : Hid (RQ zb xb b base N s t3 w1 (.int .i64 ((j : Int) + 1)) (w5'.setCell ⟨xb, 2, none⟩ v')) := by
            obtain ⟨g1, g2, g3, g4, g5⟩ := H5'.out; have hg := grown_setCell w5' xb 2 v'; have hx1 := H5.out.2.2.2.2.1
            refine Lib.hid ⟨j + 1, v', by have := HL.out.1; omega, by go_num, ?_, g2.items v', g3.apart hg hx1 hbx, below_own g4 H5.out.2.2.2.2.2 (by have := H5.out.2.2.2.2.2; omega) hg, Nat.le_trans g5 hg.size⟩
            show OwnI _ _ v' ((itemsN j t3).1 ++ [(itemsN j t3).2.item.1])
            rw [← HL.out.2]; refine g1.kept hg ?_
            by_cases hv : v'.ownBlock = none
            · exact .inl hv
            · refine .inr fun e => ?_; have := (g1.lt e).1; omega
          obtain ⟨w6', hw6'⟩ : ∃ W, W = w5'.setCell ⟨xb, 2, none⟩ v' := ⟨_, rfl⟩; rw [← hw6'] at HZ ⊢; clear hw6'; go_wp2_with (fail); have := HL.out.1
          exact ⟨HZ.out, by simp [intOf]; omega⟩
        · go_simp
          refine HG.out.mono ?_; rintro e w3 ⟨rfl, hR3, hg3⟩
          have H3 : Hid (OwnI w3 (xb + 1) iv (itemsN j t3).1 ∧ RowR w3 xb 1 s iv 0 zeroH ∧ RdAt base w3 b (itemsN j t3).2.item.2 ∧ Below (zb + 1) w1 w3 ∧ xb + 1 ≤ w3.heap.size) := by
            have hb1 := H2.out.2.1; have hb2 := H2.out.2.2.1; have hx1 := H5.out.2.2.2.2.1
            refine Lib.hid ⟨HD.out.1.kept hg3 ?_, HD.out.2.1.grown hg3 hbx.symm, hR3, below_own HD.out.2.2.1 hb1 (by have := HD.out.2.2.2; omega) hg3, Nat.le_trans HD.out.2.2.2 hg3.size⟩
            by_cases hv : iv.ownBlock = none
            · exact .inl hv
            · refine .inr fun e => ?_; have := (HD.out.1.lt e).1; omega
          clear hR3 hg3; refine hK _ _ trivial ?_; clear hK
          try simp only [Act.put, List.setIfInBounds_toArray, List.set_cons_zero, List.set_cons_succ]
          refine tkTwo 1 4 rfl rfl (by kernel_rfl) rfl rfl (fun K hK => ?_) (fun K hK => ?_)
          · obtain ⟨-, -, c2, -⟩ := H3.out.2.1.d5; refine wp_loadT (.tmp 22) rfl rfl c2 hag ?_; refine hK _ _ trivial ?_; clear hK c2
            try simp only [Act.put, List.setIfInBounds_toArray, List.set_cons_zero, List.set_cons_succ]
            refine tkOne 4 rfl (by kernel_rfl) rfl (fun K hK => ?_)
            refine wp_slice1_I (.tmp 25) rfl x rfl ?_; refine hK _ _ trivial ?_; clear hK; obtain ⟨w4, hw4⟩ : ∃ W, W = w3.alloc (.cells x.cells 53) := ⟨_, rfl⟩; obtain ⟨ib, hib⟩ : ∃ b, b = w3.heap.size := ⟨_, rfl⟩
            have H4 : Hid (OwnI w4 (xb + 1) iv (itemsN j t3).1 ∧ RowR w4 xb 1 s iv 0 zeroH ∧ RdAt base w4 b (itemsN j t3).2.item.2 ∧ Below (zb + 1) w1 w4 ∧ xb + 1 ≤ w4.heap.size ∧ (∀ i z, x.cells[i]? = some z → w4.cell? ⟨ib, i, none⟩ = some z)) := by
              have hB4 : Below w3.heap.size w3 w4 := by rw [hw4]; exact (Below.refl _ w3).alloc (Nat.le_refl _) _
              obtain ⟨g1, g2, g3, g4, g5⟩ := H3.out
              refine Lib.hid ⟨g1.far hB4, g2.below hB4, g3.below hB4, g4.trans (hB4.mono (by have := H5.out.2.2.2.2.2; omega)), Nat.le_trans g5 hB4.size, fun i z hz => ?_⟩
              rw [hw4, hib, cell_of_row _ _ i _ _ _ (heap_alloc_new w3 _)]; exact hz
            rw [← hw4, ← hib]; clear hw4 hib
            try simp only [Act.put, List.setIfInBounds_toArray, List.set_cons_zero, List.set_cons_succ]
            refine tkOne 5 rfl (by kernel_rfl) rfl (fun K hK => ?_)
            refine wp_pushI (.tmp 23) (.tmp 26) rfl (xb + 1) iv (itemsN j t3).1 rfl H4.out.1 x ib rfl H4.out.2.2.2.2.2 (by rw [itemsN_length]; have := HL.out.1; omega) H4.out.2.2.2.2.1 ?_
            intro v' w5' k1 k2; refine hK _ _ trivial ?_; clear hK; obtain ⟨va, vc, hv', -⟩ := ownI_items k1
            have H5' : Hid (OwnI w5' (xb + 1) v' ((itemsN j t3).1 ++ [x]) ∧ RowR w5' xb 1 s iv 0 zeroH ∧ RdAt base w5' b (itemsN j t3).2.item.2 ∧ Below (zb + 1) w1 w5' ∧ xb + 1 ≤ w5'.heap.size) := by
              obtain ⟨g1, g2, g3, g4, g5, -⟩ := H4.out; have hx2 := H5.out.2.2.2.2.2; have hx1 := H5.out.2.2.2.2.1; have hb2 := H2.out.2.2.1
              refine Lib.hid ⟨k1, g2.own k2 (fun e => ?_), g3.same (k2.block b g3.lt fun e => ?_) (fun k hk hkw _ => k2.block k hkw fun e => ?_), g4.trans ⟨k2.os, k2.tape, k2.output, k2.size, fun k hk => k2.block k (by omega) fun e => ?_⟩, Nat.le_trans g5 k2.size⟩
              · have := (g1.lt e).1; omega
              · have := (g1.lt e.symm).1; omega
              · have := (g1.lt e.symm).1; omega
              · have := (g1.lt e.symm).1; omega
            clear k1 k2
            try simp only [Act.put, List.setIfInBounds_toArray, List.set_cons_zero, List.set_cons_succ]
            refine tkFree (i := 6) (v := .pointer (some ⟨xb, 2, none⟩)) rfl (by kernel_rfl) (by kernel_rfl) (by kernel_rfl) (fun _ _ _ h => h) (.inl ⟨by rfl, fun w hSw => by go_simp⟩) trivial ?_
            simp only [Act.put, List.setIfInBounds_toArray, List.set_cons_zero, List.set_cons_succ]
            refine tkOne 7 rfl (by kernel_rfl) rfl (fun K hK => ?_)
            obtain ⟨-, -, c2, -⟩ := H5'.out.2.1.d5
            refine wp_storeT (v := v') (.tmp 28) (.tmp 27) rfl rfl rfl (by rw [hv']; rfl) (by rw [hv']; rfl) Tryd.sizeOf22 c2 (frozen_of_row w5' xb 2 _ _ H5'.out.2.1.2) ?_
            refine hK _ _ trivial ?_; clear hK c2
            try simp only [Act.put, ]
            refine wpAnyH_done (by kernel_rfl) ?_ _
            have HZ : Hid (RQ zb xb b base N s t3 w1 (.int .i64 ((j : Int) + 1)) (w5'.setCell ⟨xb, 2, none⟩ v')) := by
              obtain ⟨g1, g2, g3, g4, g5⟩ := H5'.out; have hg := grown_setCell w5' xb 2 v'; have hx1 := H5.out.2.2.2.2.1
              refine Lib.hid ⟨j + 1, v', by have := HL.out.1; omega, by go_num, ?_, g2.items v', g3.apart hg hx1 hbx, below_own g4 H5.out.2.2.2.2.2 (by have := H5.out.2.2.2.2.2; omega) hg, Nat.le_trans g5 hg.size⟩
              show OwnI _ _ v' ((itemsN j t3).1 ++ [(itemsN j t3).2.item.1])
              rw [← HL.out.2]; refine g1.kept hg ?_
              by_cases hv : v'.ownBlock = none
              · exact .inl hv
              · refine .inr fun e => ?_; have := (g1.lt e).1; omega
            obtain ⟨w6', hw6'⟩ : ∃ W, W = w5'.setCell ⟨xb, 2, none⟩ v' := ⟨_, rfl⟩; rw [← hw6'] at HZ ⊢; clear hw6'; go_wp2_with (fail); have := HL.out.1
            exact ⟨HZ.out, by simp [intOf]; omega⟩
          · refine wp_slice1_I (.tmp 25) rfl x rfl ?_; refine hK _ _ trivial ?_; clear hK; obtain ⟨w4, hw4⟩ : ∃ W, W = w3.alloc (.cells x.cells 53) := ⟨_, rfl⟩; obtain ⟨ib, hib⟩ : ∃ b, b = w3.heap.size := ⟨_, rfl⟩
            have H4 : Hid (OwnI w4 (xb + 1) iv (itemsN j t3).1 ∧ RowR w4 xb 1 s iv 0 zeroH ∧ RdAt base w4 b (itemsN j t3).2.item.2 ∧ Below (zb + 1) w1 w4 ∧ xb + 1 ≤ w4.heap.size ∧ (∀ i z, x.cells[i]? = some z → w4.cell? ⟨ib, i, none⟩ = some z)) := by
              have hB4 : Below w3.heap.size w3 w4 := by rw [hw4]; exact (Below.refl _ w3).alloc (Nat.le_refl _) _
              obtain ⟨g1, g2, g3, g4, g5⟩ := H3.out
              refine Lib.hid ⟨g1.far hB4, g2.below hB4, g3.below hB4, g4.trans (hB4.mono (by have := H5.out.2.2.2.2.2; omega)), Nat.le_trans g5 hB4.size, fun i z hz => ?_⟩
              rw [hw4, hib, cell_of_row _ _ i _ _ _ (heap_alloc_new w3 _)]; exact hz
            rw [← hw4, ← hib]; clear hw4 hib
            try simp only [Act.put, List.setIfInBounds_toArray, List.set_cons_zero, List.set_cons_succ]
            refine tkOne 1 rfl (by kernel_rfl) rfl (fun K hK => ?_)
            obtain ⟨-, -, c2, -⟩ := H4.out.2.1.d5; refine wp_loadT (.tmp 22) rfl rfl c2 hag ?_; refine hK _ _ trivial ?_; clear hK c2
            try simp only [Act.put, List.setIfInBounds_toArray, List.set_cons_zero, List.set_cons_succ]
            refine tkOne 5 rfl (by kernel_rfl) rfl (fun K hK => ?_)
            refine wp_pushI (.tmp 23) (.tmp 26) rfl (xb + 1) iv (itemsN j t3).1 rfl H4.out.1 x ib rfl H4.out.2.2.2.2.2 (by rw [itemsN_length]; have := HL.out.1; omega) H4.out.2.2.2.2.1 ?_
            intro v' w5' k1 k2; refine hK _ _ trivial ?_; clear hK; obtain ⟨va, vc, hv', -⟩ := ownI_items k1
            have H5' : Hid (OwnI w5' (xb + 1) v' ((itemsN j t3).1 ++ [x]) ∧ RowR w5' xb 1 s iv 0 zeroH ∧ RdAt base w5' b (itemsN j t3).2.item.2 ∧ Below (zb + 1) w1 w5' ∧ xb + 1 ≤ w5'.heap.size) := by
              obtain ⟨g1, g2, g3, g4, g5, -⟩ := H4.out; have hx2 := H5.out.2.2.2.2.2; have hx1 := H5.out.2.2.2.2.1; have hb2 := H2.out.2.2.1
              refine Lib.hid ⟨k1, g2.own k2 (fun e => ?_), g3.same (k2.block b g3.lt fun e => ?_) (fun k hk hkw _ => k2.block k hkw fun e => ?_), g4.trans ⟨k2.os, k2.tape, k2.output, k2.size, fun k hk => k2.block k (by omega) fun e => ?_⟩, Nat.le_trans g5 k2.size⟩
              · have := (g1.lt e).1; omega
              · have := (g1.lt e.symm).1; omega
              · have := (g1.lt e.symm).1; omega
              · have := (g1.lt e.symm).1; omega
            clear k1 k2
            try simp only [Act.put, List.setIfInBounds_toArray, List.set_cons_zero, List.set_cons_succ]
            refine tkFree (i := 6) (v := .pointer (some ⟨xb, 2, none⟩)) rfl (by kernel_rfl) (by kernel_rfl) (by kernel_rfl) (fun _ _ _ h => h) (.inl ⟨by rfl, fun w hSw => by go_simp⟩) trivial ?_
            simp only [Act.put, List.setIfInBounds_toArray, List.set_cons_zero, List.set_cons_succ]
            refine tkOne 7 rfl (by kernel_rfl) rfl (fun K hK => ?_)
            obtain ⟨-, -, c2, -⟩ := H5'.out.2.1.d5
            refine wp_storeT (v := v') (.tmp 28) (.tmp 27) rfl rfl rfl (by rw [hv']; rfl) (by rw [hv']; rfl) Tryd.sizeOf22 c2 (frozen_of_row w5' xb 2 _ _ H5'.out.2.1.2) ?_
            refine hK _ _ trivial ?_; clear hK c2
            try simp only [Act.put, ]
            refine wpAnyH_done (by kernel_rfl) ?_ _
            have HZ : Hid (RQ zb xb b base N s t3 w1 (.int .i64 ((j : Int) + 1)) (w5'.setCell ⟨xb, 2, none⟩ v')) := by
              obtain ⟨g1, g2, g3, g4, g5⟩ := H5'.out; have hg := grown_setCell w5' xb 2 v'; have hx1 := H5.out.2.2.2.2.1
              refine Lib.hid ⟨j + 1, v', by have := HL.out.1; omega, by go_num, ?_, g2.items v', g3.apart hg hx1 hbx, below_own g4 H5.out.2.2.2.2.2 (by have := H5.out.2.2.2.2.2; omega) hg, Nat.le_trans g5 hg.size⟩
              show OwnI _ _ v' ((itemsN j t3).1 ++ [(itemsN j t3).2.item.1])
              rw [← HL.out.2]; refine g1.kept hg ?_
              by_cases hv : v'.ownBlock = none
              · exact .inl hv
              · refine .inr fun e => ?_; have := (g1.lt e).1; omega
            obtain ⟨w6', hw6'⟩ : ∃ W, W = w5'.setCell ⟨xb, 2, none⟩ v' := ⟨_, rfl⟩; rw [← hw6'] at HZ ⊢; clear hw6'; go_wp2_with (fail); have := HL.out.1
            exact ⟨HZ.out, by simp [intOf]; omega⟩
      · obtain rfl : j = N := by omega
        obtain ⟨qa, qc, hiv, hI⟩ := ownI_items HR.out.1; subst hiv
        have HQ : Hid (RowR wr xb 1 s (.slice qa (itemsN j t3).1.length qc) 0 zeroH ∧ recC 1 s (.slice qa (itemsN j t3).1.length qc) 0 zeroH = recC 1 s (.slice qa (itemsN j t3).1.length qc) 0 zeroH ∧ RdAt base wr b (itemsN j t3).2 ∧ ItemsAt wr qa (itemsN j t3).1 ∧ Below (zb + 1) w1 wr ∧ rec0 ⟨m, 0⟩ = ((⟨1, s, (itemsN j t3).1, 0, zeroH⟩ : RecL), (itemsN j t3).2) ∧ (∀ y ∈ (itemsN j t3).1, y.key.length ≤ 1000000) ∧ (itemsN j t3).1.length ≤ 1000000 ∧ base ≤ wr.heap.size ∧ xb < wr.heap.size) := by
          refine Lib.hid ⟨HR.out.2.1, rfl, HR.out.2.2.1, hI, HR.out.2.2.2.1, ?_, fun y hy => Nat.le_trans (itemsN_key t3 j y hy) (by decide), by rw [itemsN_length]; omega, by have := HR.out.2.2.2.2; have := H5.out.2.2.2.2.1; omega, by have := HR.out.2.2.2.2; omega⟩
          unfold rec0; rw [← HT.out.1, ← HT.out.2.1, if_pos rfl, ← HT.out.2.2.1, ← HT.out.2.2.2, ← HT3.out.1, ← HT3.out.2]; simp only [Int.toNat_natCast]
        clear hI hlt
        go_upto_region 12 with (fail)
        obtain ⟨xr, hxr⟩ : ∃ x : RecL, x = ⟨1, s, (itemsN j t3).1, 0, zeroH⟩ := ⟨_, rfl⟩; obtain ⟨tq, htq⟩ : ∃ x : TapeL, x = (itemsN j t3).2 := ⟨_, rfl⟩; obtain ⟨CF, hCF⟩ : ∃ C, C = recC 1 s (.slice qa (itemsN j t3).1.length qc) 0 (zeroH) := ⟨_, rfl⟩
        have HQx : Hid (RowR wr xb xr.kind xr.seq (.slice qa xr.items.length qc) xr.area xr.root ∧ CF = recC xr.kind xr.seq (.slice qa xr.items.length qc) xr.area xr.root ∧ RdAt base wr b tq ∧ ItemsAt wr qa xr.items ∧ Below (zb + 1) w1 wr ∧ rec0 ⟨m, 0⟩ = (xr, tq) ∧ (∀ y ∈ xr.items, y.key.length ≤ 1000000) ∧ xr.items.length ≤ 1000000 ∧ base ≤ wr.heap.size ∧ xb < wr.heap.size) := by
          rw [hxr, htq, hCF]; exact HQ.out
        have HRi := Lib.hid (rright_any wr xr qa qc HQx.out.2.2.2.1 HQx.out.2.2.2.2.2.2.1 HQx.out.2.2.2.2.2.2.2.1 HQx.out.1.1); rw [← HQx.out.2.1] at HRi; clear hxr htq hCF HQ; refine wp_region_lit ?_
        refine wpList_load_at rfl 25 _ rfl ⟨xb, 0, none⟩ rfl (.agg CF) (by rw [HQx.out.2.1]; exact rec_load HQx.out.1) ?_
        iterate 2 go_step
        refine HRi.out.mono ?_; rintro e wA ⟨rfl, hBA⟩
        have HA : Hid (RdAt base wA b tq ∧ Below wr.heap.size wr wA ∧ Below (zb + 1) w1 wA ∧ base ≤ wA.heap.size) := Lib.hid ⟨HQx.out.2.2.1.below hBA, hBA, HQx.out.2.2.2.2.1.trans (hBA.mono (Nat.le_trans (show zb + 1 ≤ w1.heap.size by rw [H1.out.2.2.1]; exact Nat.le_refl _) HQx.out.2.2.2.2.1.size)), Nat.le_trans HQx.out.2.2.2.2.2.2.2.2.1 hBA.size⟩
        clear hBA HRi; dsimp only
        -- the last test: the reader fails where the record isn't right
        obtain ⟨tl, htl⟩ : ∃ t, t = recLast (xr, tq) := ⟨_, rfl⟩; have HTl := Lib.hid htl; obtain ⟨dn, hdn⟩ : ∃ d, d = tl.done := ⟨_, rfl⟩; have HDn := Lib.hid hdn
        have HEndA : Hid (∀ w', RdAt base w' b tl → Calls Tryd.prog 35 #[.pointer (some ⟨b, 0, none⟩)] w' (fun e w'' => e = .returned (.int .i64 dn) ∧ w'' = w')) := by
          rw [hdn]; exact Lib.hid (fun w' h => rend_any w' base b tl h)
        have HRes : Hid (readR m = if dn = 0 then (xr, 0) else (zeroR, dn)) := by
          unfold readR; rw [HQx.out.2.2.2.2.2.1, hdn, htl]; exact Lib.hid rfl
        clear htl hdn
        by_cases hrr : xr.rightB = true
        · rw [hrr]
          have htl : tl = tq := by rw [HTl.out]; unfold recLast; rw [if_pos hrr]
          have HB : Hid (RdAt base wA b tl ∧ Below (zb + 1) w1 wA ∧ wA.heap[xb]? = some (.cells CF 25 (0, 0)) ∧ ItemsAt wA qa xr.items) := by
            rw [htl, HQx.out.2.1]; exact Lib.hid ⟨HA.out.1, HA.out.2.2.1, (HQx.out.1.below HA.out.2.1).2, HQx.out.2.2.2.1.below HA.out.2.1⟩
          clear htl hrr; go_wp2_with (fail); refine (HEndA.out wA HB.out.1).mono ?_; rintro e wC ⟨rfl, rfl⟩; dsimp only
          by_cases hd : dn = 0
          · subst hd
            have HF : Hid (∀ W7, W7 = wC.setRow zb CF → P (.returned (.tuple #[.agg CF, .int .i64 0])) W7 ∧ W7.heap[zb]? = some (.cells CF 25 (0, 0))) := by
              refine Lib.hid (fun W7 h7 => ?_)
              have hz0 : wC.heap[zb]? = some (.cells ZR 25 (0, 0)) := (HB.out.2.1.block _ (by omega)).trans H1.out.2.1
              refine ⟨?_, by rw [h7]; exact setRow_heap _ _ ZR _ _ _ hz0⟩
              rw [H1.out.2.2.2.2.1, HRes.out, if_pos rfl, HQx.out.2.1]; refine ⟨qa, qc, rfl, ?_, HQx.out.1.1, ?_⟩
              · rw [h7]
                exact items_row HB.out.2.2.2 hz0 (by rw [H1.out.2.2.2.2.2]; exact zero_no_item)
              · rw [h7]
                have hb := H1.out.1.trans (HB.out.2.1.mono (by have := H1.out.2.2.2.1; omega))
                exact hb.trans ⟨rfl, rfl, rfl, by simp, fun k hk => setRow_other _ _ _ _ (by have := H1.out.2.2.2.1; omega)⟩
            go_upto_region 17 with (fail)
            refine wp_region_lit ?_
            refine wpList_load_at rfl 25 _ rfl ⟨xb, 0, none⟩ rfl (.agg CF) (by rw [HQx.out.2.1]; have h := HB.out.2.2.1; rw [HQx.out.2.1] at h; exact rec_load ⟨HQx.out.1.1, h⟩) ?_
            refine wpList_store_row rfl _ _ _ rfl zb CF rfl rfl 25 ZR ((HB.out.2.1.block _ (by have := H1.out.2.2.1; omega)).trans H1.out.2.1) (by rw [HQx.out.2.1]; exact rec_size _ _ _ _ _ HQx.out.1.1) (by rw [H1.out.2.2.2.2.2, zeroC_size, HQx.out.2.1, recC_size HQx.out.1.1]) (by rw [HQx.out.2.1]; exact recC_one _ rfl) ?_
            obtain ⟨W7, hW7⟩ : ∃ W, W = wC.setRow zb CF := ⟨_, rfl⟩; have HE := Lib.hid (HF.out W7 hW7); rw [← hW7]; clear hW7; go_wp2_with (fail); refine bodyPost_ret (v := .tuple #[.agg CF, .int .i64 0]) ?_ rfl HE.out.1
            exact results_cell_tmp (p := 2) (s := 3) rfl _ _ zb 25 CF (0, 0) _ rfl HE.out.2 Tryd.underlying25 rfl (by rw [HQx.out.2.1]; exact rec_size _ _ _ _ _ HQx.out.1.1)
          · have hd1 : (dn != 0) = true := by simpa using hd
            have HF : Hid (∀ W7, W7 = wC.setRow zb ZR → P (.returned (.tuple #[.agg ZR, .int .i64 dn])) W7 ∧ W7.heap[zb]? = some (.cells ZR 25 (0, 0))) := by
              refine Lib.hid (fun W7 h7 => ?_)
              have hz0 : wC.heap[zb]? = some (.cells ZR 25 (0, 0)) := (HB.out.2.1.block _ (by omega)).trans H1.out.2.1
              refine ⟨?_, by rw [h7]; exact setRow_heap _ _ ZR _ _ _ hz0⟩
              rw [H1.out.2.2.2.2.1, HRes.out, if_neg hd, H1.out.2.2.2.2.2]
              refine ⟨none, 0, rfl, .inl rfl, by simp [zeroR, zeroH], ?_⟩
              rw [h7]
              have hb := H1.out.1.trans (HB.out.2.1.mono (by have := H1.out.2.2.2.1; omega))
              exact hb.trans ⟨rfl, rfl, rfl, by simp, fun k hk => setRow_other _ _ _ _ (by have := H1.out.2.2.2.1; omega)⟩
            go_upto_region 16 with (fail)
            refine wp_region_lit ?_
            refine wpList_built_at rfl 25 _ rfl (cs := ZR) (by rw [H1.out.2.2.2.2.2]; simpa using zero_rec.2) ?_
            iterate 3 go_step
            refine wpList_store_row rfl _ _ _ rfl zb ZR rfl rfl 25 ZR ((HB.out.2.1.block _ (by have := H1.out.2.2.1; omega)).trans H1.out.2.1) (by rw [H1.out.2.2.2.2.2]; exact rec_size _ _ _ _ _ (by simp [zeroH])) rfl (by rw [H1.out.2.2.2.2.2]; exact recC_one _ rfl) ?_
            obtain ⟨W7, hW7⟩ : ∃ W, W = wC.setRow zb ZR := ⟨_, rfl⟩; have HE := Lib.hid (HF.out W7 hW7); rw [← hW7]; clear hW7; go_wp2_with (fail); refine bodyPost_ret (v := .tuple #[.agg ZR, .int .i64 dn]) ?_ rfl HE.out.1
            exact results_cell_tmp (p := 2) (s := 3) rfl _ _ zb 25 ZR (0, 0) _ rfl HE.out.2 Tryd.underlying25 rfl (by rw [H1.out.2.2.2.2.2]; exact rec_size _ _ _ _ _ (by simp [zeroH]))

        · rw [Bool.not_eq_true] at hrr; rw [hrr]
          have htl : tl = tq.fail 11 := by rw [HTl.out]; unfold recLast; rw [hrr]; rfl
          have HFl := rfail_any wA base b tq 11 HA.out.1; rw [← htl] at HFl; have HFl := Lib.hid HFl; clear htl hrr; go_wp2_with (fail); refine HFl.out.mono ?_; rintro e wB ⟨rfl, hRB, hgB⟩
          have HB : Hid (RdAt base wB b tl ∧ Below (zb + 1) w1 wB ∧ wB.heap[xb]? = some (.cells CF 25 (0, 0)) ∧ ItemsAt wB qa xr.items) := by
            have hrow := HQx.out.1.below HA.out.2.1
            have hxb : xb ≠ b := by have := H5.out.2.2.2.2.1; have := H2.out.2.2.1; omega
            have hrow2 := hrow.grown hgB hxb
            refine Lib.hid ⟨hRB, below_own HA.out.2.2.1 H2.out.2.1 (by have := HA.out.2.2.1.size; have := H1.out.2.2.1; omega) hgB, by rw [HQx.out.2.1]; exact hrow2.2, ?_⟩
            exact items_far (HQx.out.2.2.2.1.below HA.out.2.1) hgB HA.out.1
          clear hRB hgB HFl; dsimp only; go_wp2_with (fail); refine (HEndA.out wB HB.out.1).mono ?_; rintro e wC ⟨rfl, rfl⟩; dsimp only
          by_cases hd : dn = 0
          · subst hd
            have HF : Hid (∀ W7, W7 = wC.setRow zb CF → P (.returned (.tuple #[.agg CF, .int .i64 0])) W7 ∧ W7.heap[zb]? = some (.cells CF 25 (0, 0))) := by
              refine Lib.hid (fun W7 h7 => ?_)
              have hz0 : wC.heap[zb]? = some (.cells ZR 25 (0, 0)) := (HB.out.2.1.block _ (by omega)).trans H1.out.2.1
              refine ⟨?_, by rw [h7]; exact setRow_heap _ _ ZR _ _ _ hz0⟩
              rw [H1.out.2.2.2.2.1, HRes.out, if_pos rfl, HQx.out.2.1]; refine ⟨qa, qc, rfl, ?_, HQx.out.1.1, ?_⟩
              · rw [h7]
                exact items_row HB.out.2.2.2 hz0 (by rw [H1.out.2.2.2.2.2]; exact zero_no_item)
              · rw [h7]
                have hb := H1.out.1.trans (HB.out.2.1.mono (by have := H1.out.2.2.2.1; omega))
                exact hb.trans ⟨rfl, rfl, rfl, by simp, fun k hk => setRow_other _ _ _ _ (by have := H1.out.2.2.2.1; omega)⟩
            go_upto_region 17 with (fail)
            refine wp_region_lit ?_
            refine wpList_load_at rfl 25 _ rfl ⟨xb, 0, none⟩ rfl (.agg CF) (by rw [HQx.out.2.1]; have h := HB.out.2.2.1; rw [HQx.out.2.1] at h; exact rec_load ⟨HQx.out.1.1, h⟩) ?_
            refine wpList_store_row rfl _ _ _ rfl zb CF rfl rfl 25 ZR ((HB.out.2.1.block _ (by have := H1.out.2.2.1; omega)).trans H1.out.2.1) (by rw [HQx.out.2.1]; exact rec_size _ _ _ _ _ HQx.out.1.1) (by rw [H1.out.2.2.2.2.2, zeroC_size, HQx.out.2.1, recC_size HQx.out.1.1]) (by rw [HQx.out.2.1]; exact recC_one _ rfl) ?_
            obtain ⟨W7, hW7⟩ : ∃ W, W = wC.setRow zb CF := ⟨_, rfl⟩; have HE := Lib.hid (HF.out W7 hW7); rw [← hW7]; clear hW7; go_wp2_with (fail); refine bodyPost_ret (v := .tuple #[.agg CF, .int .i64 0]) ?_ rfl HE.out.1
            exact results_cell_tmp (p := 2) (s := 3) rfl _ _ zb 25 CF (0, 0) _ rfl HE.out.2 Tryd.underlying25 rfl (by rw [HQx.out.2.1]; exact rec_size _ _ _ _ _ HQx.out.1.1)
          · have hd1 : (dn != 0) = true := by simpa using hd
            have HF : Hid (∀ W7, W7 = wC.setRow zb ZR → P (.returned (.tuple #[.agg ZR, .int .i64 dn])) W7 ∧ W7.heap[zb]? = some (.cells ZR 25 (0, 0))) := by
              refine Lib.hid (fun W7 h7 => ?_)
              have hz0 : wC.heap[zb]? = some (.cells ZR 25 (0, 0)) := (HB.out.2.1.block _ (by omega)).trans H1.out.2.1
              refine ⟨?_, by rw [h7]; exact setRow_heap _ _ ZR _ _ _ hz0⟩
              rw [H1.out.2.2.2.2.1, HRes.out, if_neg hd, H1.out.2.2.2.2.2]
              refine ⟨none, 0, rfl, .inl rfl, by simp [zeroR, zeroH], ?_⟩
              rw [h7]
              have hb := H1.out.1.trans (HB.out.2.1.mono (by have := H1.out.2.2.2.1; omega))
              exact hb.trans ⟨rfl, rfl, rfl, by simp, fun k hk => setRow_other _ _ _ _ (by have := H1.out.2.2.2.1; omega)⟩
            go_upto_region 16 with (fail)
            refine wp_region_lit ?_
            refine wpList_built_at rfl 25 _ rfl (cs := ZR) (by rw [H1.out.2.2.2.2.2]; simpa using zero_rec.2) ?_
            iterate 3 go_step
            refine wpList_store_row rfl _ _ _ rfl zb ZR rfl rfl 25 ZR ((HB.out.2.1.block _ (by have := H1.out.2.2.1; omega)).trans H1.out.2.1) (by rw [H1.out.2.2.2.2.2]; exact rec_size _ _ _ _ _ (by simp [zeroH])) rfl (by rw [H1.out.2.2.2.2.2]; exact recC_one _ rfl) ?_
            obtain ⟨W7, hW7⟩ : ∃ W, W = wC.setRow zb ZR := ⟨_, rfl⟩; have HE := Lib.hid (HF.out W7 hW7); rw [← hW7]; clear hW7; go_wp2_with (fail); refine bodyPost_ret (v := .tuple #[.agg ZR, .int .i64 dn]) ?_ rfl HE.out.1
            exact results_cell_tmp (p := 2) (s := 3) rfl _ _ zb 25 ZR (0, 0) _ rfl HE.out.2 Tryd.underlying25 rfl (by rw [H1.out.2.2.2.2.2]; exact rec_size _ _ _ _ _ (by simp [zeroH]))
  · have e1 : (k == 1) = false := by simpa using hk1
    by_cases hk2 : k = 2
    · subst hk2; obtain ⟨c0, -⟩ := H5.out.1.d5; obtain ⟨ar, har⟩ : ∃ k, k = (t2.number 1).1 := ⟨_, rfl⟩; obtain ⟨t3, ht3⟩ : ∃ k, k = (t2.number 1).2 := ⟨_, rfl⟩; have HN3 := rnumber_any w5 base b t2 1 H5.out.2.1; rw [← har, ← ht3] at HN3; have HN3 := Lib.hid HN3; have HT3 := Lib.hid (And.intro har ht3); clear har ht3; go_wp2_with (fail); refine HN3.out.mono ?_; rintro e w6 ⟨rfl, hR6, hg6⟩
      have hbx : b ≠ xb := by have := H5.out.2.2.2.2.1; have := H2.out.2.2.1; omega
      have H6 : Hid (RowR w6 xb 2 s (.slice none 0 0) 0 zeroH ∧ RdAt base w6 b t3 ∧ Below (zb + 1) w1 w6) := Lib.hid ⟨H5.out.1.grown hg6 hbx.symm, hR6, below_own H5.out.2.2.1 H2.out.2.1 (by have := H5.out.2.2.2; omega) hg6⟩
      have HS6 : Hid (xb < w6.heap.size) := Lib.hid H6.out.1.lt; clear hR6 hg6 HN3 c0; obtain ⟨-, -, -, c3, -⟩ := H6.out.1.d5; have f3 : w6.frozen? ⟨xb, 3, none⟩ = false := frozen_of_row w6 xb 3 _ _ H6.out.1.2; dsimp only
      go_upto_region 11 with (fail)
      obtain ⟨w7, hw7⟩ : ∃ W, W = w6.setCell ⟨xb, 3, none⟩ (.int .i64 ar) := ⟨_, rfl⟩
      have H7 : Hid (RowR w7.drew xb 2 s (.slice none 0 0) ar zeroH ∧ RdAt base w7.drew b t3 ∧ Below (zb + 1) w1 w7.drew) := by
        have hg := grown_setCell w6 xb 3 (.int .i64 ar); rw [hw7]
        have hb7 := below_own H6.out.2.2 H5.out.2.2.2.2.2 (by have := HS6.out; have := H5.out.2.2.2.2.2; omega) hg
        exact Lib.hid ⟨H6.out.1.area ar, (H6.out.2.1.apart hg H5.out.2.2.2.2.1 hbx).below (Below.refl _ _).drew, hb7.trans ((Below.refl _ _).drew.mono (by have := HS6.out; have := hg.size; have := H5.out.2.2.2.2.2; omega))⟩
      rw [← hw7]; clear hw7 c3 f3; have HFx := Lib.hid (rfixed_any w7.drew base b t3 32 H7.out.2.1)
      refine wp_region_held_drew (S := fun _ => True) (by kernel_rfl) trivial (fun hHeld => ?_)
      refine tkFree (i := 0) rfl (by kernel_rfl) (by kernel_rfl) (by kernel_rfl) (fun _ _ _ h => h) (.inl ⟨by rfl, fun w hSw => by go_simp; rfl⟩) hHeld ?_
      simp only [Act.put, List.setIfInBounds_toArray, List.set_cons_zero, List.set_cons_succ]
      refine tkFree (i := 1) (v := .slice (some ⟨xb, 4, none⟩) 32 32) rfl (by kernel_rfl) (by kernel_rfl) (by kernel_rfl) (fun _ _ _ h => h) (.inl ⟨by rfl, fun w hSw => by go_simp⟩) hHeld ?_
      simp only [Act.put, List.setIfInBounds_toArray, List.set_cons_zero, List.set_cons_succ]
      refine tkFree (i := 2) rfl (by kernel_rfl) (by kernel_rfl) (by kernel_rfl) (fun _ _ _ h => h) (.inl ⟨by rfl, fun w hSw => by go_simp; rfl⟩) hHeld ?_
      simp only [Act.put, List.setIfInBounds_toArray, List.set_cons_zero, List.set_cons_succ]
      refine tkOne 3 rfl (by kernel_rfl) rfl (fun K hK => ?_)
      go_simp
      refine HFx.out.mono ?_; rintro e w8 ⟨ma8, mc8, rfl, hS8, hR8, hg8⟩; obtain ⟨fb, hfb⟩ : ∃ x, x = (t3.fixed 32).1 := ⟨_, rfl⟩; obtain ⟨t4, ht4⟩ : ∃ x, x = (t3.fixed 32).2 := ⟨_, rfl⟩; rw [← hfb] at hS8 ⊢; rw [← ht4] at hR8
      have H8 : Hid (RowR w8 xb 2 s (.slice none 0 0) ar zeroH ∧ RdAt base w8 b t4 ∧ Below (zb + 1) w1 w8 ∧ SrcP w8 ma8 fb.length fb ∧ fb = (t3.fixed 32).1 ∧ t4 = (t3.fixed 32).2) := by
        have h := H7.out.1.lt
        exact Lib.hid ⟨H7.out.1.grown hg8 hbx.symm, hR8, below_own H7.out.2.2 H2.out.2.1 (by have := H5.out.2.2.2.2.2; omega) hg8, hS8.srcP, hfb, ht4⟩
      refine hK _ _ trivial ?_; clear hK hHeld hS8 hR8 hg8 hfb ht4 HFx
      try simp only [Act.put, List.setIfInBounds_toArray, List.set_cons_zero, List.set_cons_succ]
      refine tkOne 4 rfl (by kernel_rfl) rfl (fun K hK => ?_)
      refine wp_copy_root (.tmp 36) (.tmp 38) rfl H8.out.1 H8.out.2.2.2.1 (by rw [H8.out.2.2.2.2.1]; exact fixed_32 t3) rfl rfl (fun w9 hr9 hg9 => hK _ _ trivial ?_)
      clear hK
      try simp only [Act.put, List.setIfInBounds_toArray, List.set_cons_zero, List.set_cons_succ]
      refine wpAnyH_done (by kernel_rfl) ?_ _
      obtain ⟨qa, hqa⟩ : ∃ a : Option Addr, a = none := ⟨_, rfl⟩; obtain ⟨qc, hqc⟩ : ∃ c : Nat, c = 0 := ⟨_, rfl⟩
      have HQ : Hid (RowR w9 xb 2 s (.slice qa 0 qc) ar (fb ++ zeroH.drop fb.length) ∧ recC 2 s (.slice qa 0 qc) ar (fb ++ zeroH.drop fb.length) = recC 2 s (.slice qa 0 qc) ar (fb ++ zeroH.drop fb.length) ∧ RdAt base w9 b t4 ∧ ItemsAt w9 qa [] ∧ Below (zb + 1) w1 w9 ∧ rec0 ⟨m, 0⟩ = ((⟨2, s, [], ar, fb ++ zeroH.drop fb.length⟩ : RecL), t4) ∧ (∀ y ∈ ([] : List ItemL), y.key.length ≤ 1000000) ∧ ([] : List ItemL).length ≤ 1000000 ∧ base ≤ w9.heap.size ∧ xb < w9.heap.size) := by
        have hl := hr9.lt
        refine Lib.hid ⟨by rw [hqa, hqc]; exact hr9, rfl, H8.out.2.1.apart hg9 H5.out.2.2.2.2.1 hbx, .inl rfl, below_own H8.out.2.2.1 H5.out.2.2.2.2.2 (by have := H8.out.1.lt; have := H5.out.2.2.2.2.2; omega) hg9, ?_, fun y hy => by simp at hy, by simp, by have := H5.out.2.2.2.2.1; omega, hl⟩
        unfold rec0
        rw [← HT.out.1, ← HT.out.2.1, if_neg (by decide), if_pos rfl, ← HT.out.2.2.1, ← HT.out.2.2.2, ← HT3.out.1, ← HT3.out.2, ← H8.out.2.2.2.2.1, ← H8.out.2.2.2.2.2]
      clear hqa hqc hr9 hg9
      go_upto_region 12 with (fail)
      obtain ⟨xr, hxr⟩ : ∃ x : RecL, x = ⟨2, s, [], ar, fb ++ zeroH.drop fb.length⟩ := ⟨_, rfl⟩; obtain ⟨tq, htq⟩ : ∃ x : TapeL, x = t4 := ⟨_, rfl⟩; obtain ⟨CF, hCF⟩ : ∃ C, C = recC 2 s (.slice qa 0 qc) ar (fb ++ zeroH.drop fb.length) := ⟨_, rfl⟩
      have HQx : Hid (RowR w9 xb xr.kind xr.seq (.slice qa xr.items.length qc) xr.area xr.root ∧ CF = recC xr.kind xr.seq (.slice qa xr.items.length qc) xr.area xr.root ∧ RdAt base w9 b tq ∧ ItemsAt w9 qa xr.items ∧ Below (zb + 1) w1 w9 ∧ rec0 ⟨m, 0⟩ = (xr, tq) ∧ (∀ y ∈ xr.items, y.key.length ≤ 1000000) ∧ xr.items.length ≤ 1000000 ∧ base ≤ w9.heap.size ∧ xb < w9.heap.size) := by
        rw [hxr, htq, hCF]; exact HQ.out
      have HRi := Lib.hid (rright_any w9 xr qa qc HQx.out.2.2.2.1 HQx.out.2.2.2.2.2.2.1 HQx.out.2.2.2.2.2.2.2.1 HQx.out.1.1); rw [← HQx.out.2.1] at HRi; clear hxr htq hCF HQ; refine wp_region_lit ?_
      refine wpList_load_at rfl 25 _ rfl ⟨xb, 0, none⟩ rfl (.agg CF) (by rw [HQx.out.2.1]; exact rec_load HQx.out.1) ?_
      iterate 2 go_step
      refine HRi.out.mono ?_; rintro e wA ⟨rfl, hBA⟩
      have HA : Hid (RdAt base wA b tq ∧ Below w9.heap.size w9 wA ∧ Below (zb + 1) w1 wA ∧ base ≤ wA.heap.size) := Lib.hid ⟨HQx.out.2.2.1.below hBA, hBA, HQx.out.2.2.2.2.1.trans (hBA.mono (Nat.le_trans (show zb + 1 ≤ w1.heap.size by rw [H1.out.2.2.1]; exact Nat.le_refl _) HQx.out.2.2.2.2.1.size)), Nat.le_trans HQx.out.2.2.2.2.2.2.2.2.1 hBA.size⟩
      clear hBA HRi; dsimp only
      -- the last test: the reader fails where the record isn't right
      obtain ⟨tl, htl⟩ : ∃ t, t = recLast (xr, tq) := ⟨_, rfl⟩; have HTl := Lib.hid htl; obtain ⟨dn, hdn⟩ : ∃ d, d = tl.done := ⟨_, rfl⟩; have HDn := Lib.hid hdn
      have HEndA : Hid (∀ w', RdAt base w' b tl → Calls Tryd.prog 35 #[.pointer (some ⟨b, 0, none⟩)] w' (fun e w'' => e = .returned (.int .i64 dn) ∧ w'' = w')) := by
        rw [hdn]; exact Lib.hid (fun w' h => rend_any w' base b tl h)
      have HRes : Hid (readR m = if dn = 0 then (xr, 0) else (zeroR, dn)) := by
        unfold readR; rw [HQx.out.2.2.2.2.2.1, hdn, htl]; exact Lib.hid rfl
      clear htl hdn
      by_cases hrr : xr.rightB = true
      · rw [hrr]
        have htl : tl = tq := by rw [HTl.out]; unfold recLast; rw [if_pos hrr]
        have HB : Hid (RdAt base wA b tl ∧ Below (zb + 1) w1 wA ∧ wA.heap[xb]? = some (.cells CF 25 (0, 0)) ∧ ItemsAt wA qa xr.items) := by
          rw [htl, HQx.out.2.1]; exact Lib.hid ⟨HA.out.1, HA.out.2.2.1, (HQx.out.1.below HA.out.2.1).2, HQx.out.2.2.2.1.below HA.out.2.1⟩
        clear htl hrr; go_wp2_with (fail); refine (HEndA.out wA HB.out.1).mono ?_; rintro e wC ⟨rfl, rfl⟩; dsimp only
        by_cases hd : dn = 0
        · subst hd
          have HF : Hid (∀ W7, W7 = wC.setRow zb CF → P (.returned (.tuple #[.agg CF, .int .i64 0])) W7 ∧ W7.heap[zb]? = some (.cells CF 25 (0, 0))) := by
            refine Lib.hid (fun W7 h7 => ?_)
            have hz0 : wC.heap[zb]? = some (.cells ZR 25 (0, 0)) := (HB.out.2.1.block _ (by omega)).trans H1.out.2.1
            refine ⟨?_, by rw [h7]; exact setRow_heap _ _ ZR _ _ _ hz0⟩
            rw [H1.out.2.2.2.2.1, HRes.out, if_pos rfl, HQx.out.2.1]; refine ⟨qa, qc, rfl, ?_, HQx.out.1.1, ?_⟩
            · rw [h7]
              exact items_row HB.out.2.2.2 hz0 (by rw [H1.out.2.2.2.2.2]; exact zero_no_item)
            · rw [h7]
              have hb := H1.out.1.trans (HB.out.2.1.mono (by have := H1.out.2.2.2.1; omega))
              exact hb.trans ⟨rfl, rfl, rfl, by simp, fun k hk => setRow_other _ _ _ _ (by have := H1.out.2.2.2.1; omega)⟩
          go_upto_region 17 with (fail)
          refine wp_region_lit ?_
          refine wpList_load_at rfl 25 _ rfl ⟨xb, 0, none⟩ rfl (.agg CF) (by rw [HQx.out.2.1]; have h := HB.out.2.2.1; rw [HQx.out.2.1] at h; exact rec_load ⟨HQx.out.1.1, h⟩) ?_
          refine wpList_store_row rfl _ _ _ rfl zb CF rfl rfl 25 ZR ((HB.out.2.1.block _ (by have := H1.out.2.2.1; omega)).trans H1.out.2.1) (by rw [HQx.out.2.1]; exact rec_size _ _ _ _ _ HQx.out.1.1) (by rw [H1.out.2.2.2.2.2, zeroC_size, HQx.out.2.1, recC_size HQx.out.1.1]) (by rw [HQx.out.2.1]; exact recC_one _ rfl) ?_
          obtain ⟨W7, hW7⟩ : ∃ W, W = wC.setRow zb CF := ⟨_, rfl⟩; have HE := Lib.hid (HF.out W7 hW7); rw [← hW7]; clear hW7; go_wp2_with (fail); refine bodyPost_ret (v := .tuple #[.agg CF, .int .i64 0]) ?_ rfl HE.out.1
          exact results_cell_tmp (p := 2) (s := 3) rfl _ _ zb 25 CF (0, 0) _ rfl HE.out.2 Tryd.underlying25 rfl (by rw [HQx.out.2.1]; exact rec_size _ _ _ _ _ HQx.out.1.1)
        · have hd1 : (dn != 0) = true := by simpa using hd
          have HF : Hid (∀ W7, W7 = wC.setRow zb ZR → P (.returned (.tuple #[.agg ZR, .int .i64 dn])) W7 ∧ W7.heap[zb]? = some (.cells ZR 25 (0, 0))) := by
            refine Lib.hid (fun W7 h7 => ?_)
            have hz0 : wC.heap[zb]? = some (.cells ZR 25 (0, 0)) := (HB.out.2.1.block _ (by omega)).trans H1.out.2.1
            refine ⟨?_, by rw [h7]; exact setRow_heap _ _ ZR _ _ _ hz0⟩
            rw [H1.out.2.2.2.2.1, HRes.out, if_neg hd, H1.out.2.2.2.2.2]
            refine ⟨none, 0, rfl, .inl rfl, by simp [zeroR, zeroH], ?_⟩
            rw [h7]
            have hb := H1.out.1.trans (HB.out.2.1.mono (by have := H1.out.2.2.2.1; omega))
            exact hb.trans ⟨rfl, rfl, rfl, by simp, fun k hk => setRow_other _ _ _ _ (by have := H1.out.2.2.2.1; omega)⟩
          go_upto_region 16 with (fail)
          refine wp_region_lit ?_
          refine wpList_built_at rfl 25 _ rfl (cs := ZR) (by rw [H1.out.2.2.2.2.2]; simpa using zero_rec.2) ?_
          iterate 3 go_step
          refine wpList_store_row rfl _ _ _ rfl zb ZR rfl rfl 25 ZR ((HB.out.2.1.block _ (by have := H1.out.2.2.1; omega)).trans H1.out.2.1) (by rw [H1.out.2.2.2.2.2]; exact rec_size _ _ _ _ _ (by simp [zeroH])) rfl (by rw [H1.out.2.2.2.2.2]; exact recC_one _ rfl) ?_
          obtain ⟨W7, hW7⟩ : ∃ W, W = wC.setRow zb ZR := ⟨_, rfl⟩; have HE := Lib.hid (HF.out W7 hW7); rw [← hW7]; clear hW7; go_wp2_with (fail); refine bodyPost_ret (v := .tuple #[.agg ZR, .int .i64 dn]) ?_ rfl HE.out.1
          exact results_cell_tmp (p := 2) (s := 3) rfl _ _ zb 25 ZR (0, 0) _ rfl HE.out.2 Tryd.underlying25 rfl (by rw [H1.out.2.2.2.2.2]; exact rec_size _ _ _ _ _ (by simp [zeroH]))

      · rw [Bool.not_eq_true] at hrr; rw [hrr]
        have htl : tl = tq.fail 11 := by rw [HTl.out]; unfold recLast; rw [hrr]; rfl
        have HFl := rfail_any wA base b tq 11 HA.out.1; rw [← htl] at HFl; have HFl := Lib.hid HFl; clear htl hrr; go_wp2_with (fail); refine HFl.out.mono ?_; rintro e wB ⟨rfl, hRB, hgB⟩
        have HB : Hid (RdAt base wB b tl ∧ Below (zb + 1) w1 wB ∧ wB.heap[xb]? = some (.cells CF 25 (0, 0)) ∧ ItemsAt wB qa xr.items) := by
          have hrow := HQx.out.1.below HA.out.2.1
          have hxb : xb ≠ b := by have := H5.out.2.2.2.2.1; have := H2.out.2.2.1; omega
          have hrow2 := hrow.grown hgB hxb
          refine Lib.hid ⟨hRB, below_own HA.out.2.2.1 H2.out.2.1 (by have := HA.out.2.2.1.size; have := H1.out.2.2.1; omega) hgB, by rw [HQx.out.2.1]; exact hrow2.2, ?_⟩
          exact items_far (HQx.out.2.2.2.1.below HA.out.2.1) hgB HA.out.1
        clear hRB hgB HFl; dsimp only; go_wp2_with (fail); refine (HEndA.out wB HB.out.1).mono ?_; rintro e wC ⟨rfl, rfl⟩; dsimp only
        by_cases hd : dn = 0
        · subst hd
          have HF : Hid (∀ W7, W7 = wC.setRow zb CF → P (.returned (.tuple #[.agg CF, .int .i64 0])) W7 ∧ W7.heap[zb]? = some (.cells CF 25 (0, 0))) := by
            refine Lib.hid (fun W7 h7 => ?_)
            have hz0 : wC.heap[zb]? = some (.cells ZR 25 (0, 0)) := (HB.out.2.1.block _ (by omega)).trans H1.out.2.1
            refine ⟨?_, by rw [h7]; exact setRow_heap _ _ ZR _ _ _ hz0⟩
            rw [H1.out.2.2.2.2.1, HRes.out, if_pos rfl, HQx.out.2.1]; refine ⟨qa, qc, rfl, ?_, HQx.out.1.1, ?_⟩
            · rw [h7]
              exact items_row HB.out.2.2.2 hz0 (by rw [H1.out.2.2.2.2.2]; exact zero_no_item)
            · rw [h7]
              have hb := H1.out.1.trans (HB.out.2.1.mono (by have := H1.out.2.2.2.1; omega))
              exact hb.trans ⟨rfl, rfl, rfl, by simp, fun k hk => setRow_other _ _ _ _ (by have := H1.out.2.2.2.1; omega)⟩
          go_upto_region 17 with (fail)
          refine wp_region_lit ?_
          refine wpList_load_at rfl 25 _ rfl ⟨xb, 0, none⟩ rfl (.agg CF) (by rw [HQx.out.2.1]; have h := HB.out.2.2.1; rw [HQx.out.2.1] at h; exact rec_load ⟨HQx.out.1.1, h⟩) ?_
          refine wpList_store_row rfl _ _ _ rfl zb CF rfl rfl 25 ZR ((HB.out.2.1.block _ (by have := H1.out.2.2.1; omega)).trans H1.out.2.1) (by rw [HQx.out.2.1]; exact rec_size _ _ _ _ _ HQx.out.1.1) (by rw [H1.out.2.2.2.2.2, zeroC_size, HQx.out.2.1, recC_size HQx.out.1.1]) (by rw [HQx.out.2.1]; exact recC_one _ rfl) ?_
          obtain ⟨W7, hW7⟩ : ∃ W, W = wC.setRow zb CF := ⟨_, rfl⟩; have HE := Lib.hid (HF.out W7 hW7); rw [← hW7]; clear hW7; go_wp2_with (fail); refine bodyPost_ret (v := .tuple #[.agg CF, .int .i64 0]) ?_ rfl HE.out.1
          exact results_cell_tmp (p := 2) (s := 3) rfl _ _ zb 25 CF (0, 0) _ rfl HE.out.2 Tryd.underlying25 rfl (by rw [HQx.out.2.1]; exact rec_size _ _ _ _ _ HQx.out.1.1)
        · have hd1 : (dn != 0) = true := by simpa using hd
          have HF : Hid (∀ W7, W7 = wC.setRow zb ZR → P (.returned (.tuple #[.agg ZR, .int .i64 dn])) W7 ∧ W7.heap[zb]? = some (.cells ZR 25 (0, 0))) := by
            refine Lib.hid (fun W7 h7 => ?_)
            have hz0 : wC.heap[zb]? = some (.cells ZR 25 (0, 0)) := (HB.out.2.1.block _ (by omega)).trans H1.out.2.1
            refine ⟨?_, by rw [h7]; exact setRow_heap _ _ ZR _ _ _ hz0⟩
            rw [H1.out.2.2.2.2.1, HRes.out, if_neg hd, H1.out.2.2.2.2.2]
            refine ⟨none, 0, rfl, .inl rfl, by simp [zeroR, zeroH], ?_⟩
            rw [h7]
            have hb := H1.out.1.trans (HB.out.2.1.mono (by have := H1.out.2.2.2.1; omega))
            exact hb.trans ⟨rfl, rfl, rfl, by simp, fun k hk => setRow_other _ _ _ _ (by have := H1.out.2.2.2.1; omega)⟩
          go_upto_region 16 with (fail)
          refine wp_region_lit ?_
          refine wpList_built_at rfl 25 _ rfl (cs := ZR) (by rw [H1.out.2.2.2.2.2]; simpa using zero_rec.2) ?_
          iterate 3 go_step
          refine wpList_store_row rfl _ _ _ rfl zb ZR rfl rfl 25 ZR ((HB.out.2.1.block _ (by have := H1.out.2.2.1; omega)).trans H1.out.2.1) (by rw [H1.out.2.2.2.2.2]; exact rec_size _ _ _ _ _ (by simp [zeroH])) rfl (by rw [H1.out.2.2.2.2.2]; exact recC_one _ rfl) ?_
          obtain ⟨W7, hW7⟩ : ∃ W, W = wC.setRow zb ZR := ⟨_, rfl⟩; have HE := Lib.hid (HF.out W7 hW7); rw [← hW7]; clear hW7; go_wp2_with (fail); refine bodyPost_ret (v := .tuple #[.agg ZR, .int .i64 dn]) ?_ rfl HE.out.1
          exact results_cell_tmp (p := 2) (s := 3) rfl _ _ zb 25 ZR (0, 0) _ rfl HE.out.2 Tryd.underlying25 rfl (by rw [H1.out.2.2.2.2.2]; exact rec_size _ _ _ _ _ (by simp [zeroH]))
    · have e2 : (k == 2) = false := by simpa using hk2
      obtain ⟨c0, -⟩ := H5.out.1.d5; obtain ⟨qa, hqa⟩ : ∃ a : Option Addr, a = none := ⟨_, rfl⟩; obtain ⟨qc, hqc⟩ : ∃ c : Nat, c = 0 := ⟨_, rfl⟩
      have HQ : Hid (RowR w5 xb k s (.slice qa 0 qc) 0 zeroH ∧ recC k s (.slice qa 0 qc) 0 zeroH = recC k s (.slice qa 0 qc) 0 zeroH ∧ RdAt base w5 b t2 ∧ ItemsAt w5 qa [] ∧ Below (zb + 1) w1 w5 ∧ rec0 ⟨m, 0⟩ = ((⟨k, s, [], 0, zeroH⟩ : RecL), t2) ∧ (∀ y ∈ ([] : List ItemL), y.key.length ≤ 1000000) ∧ ([] : List ItemL).length ≤ 1000000 ∧ base ≤ w5.heap.size ∧ xb < w5.heap.size) := by
        obtain ⟨h1, h2, h3, h4, h5, h6⟩ := H5.out
        refine Lib.hid ⟨by rw [hqa, hqc]; exact h1, rfl, h2, .inl rfl, h3, ?_, fun y hy => by simp at hy, by simp, by omega, by omega⟩
        unfold rec0; rw [← HT.out.1, ← HT.out.2.1, if_neg hk1, if_neg hk2, ← HT.out.2.2.1, ← HT.out.2.2.2]
      clear hqa hqc
      go_upto_region 12 with (fail)
      obtain ⟨xr, hxr⟩ : ∃ x : RecL, x = ⟨k, s, [], 0, zeroH⟩ := ⟨_, rfl⟩; obtain ⟨tq, htq⟩ : ∃ x : TapeL, x = t2 := ⟨_, rfl⟩; obtain ⟨CF, hCF⟩ : ∃ C, C = recC k s (.slice qa 0 qc) 0 (zeroH) := ⟨_, rfl⟩
      have HQx : Hid (RowR w5 xb xr.kind xr.seq (.slice qa xr.items.length qc) xr.area xr.root ∧ CF = recC xr.kind xr.seq (.slice qa xr.items.length qc) xr.area xr.root ∧ RdAt base w5 b tq ∧ ItemsAt w5 qa xr.items ∧ Below (zb + 1) w1 w5 ∧ rec0 ⟨m, 0⟩ = (xr, tq) ∧ (∀ y ∈ xr.items, y.key.length ≤ 1000000) ∧ xr.items.length ≤ 1000000 ∧ base ≤ w5.heap.size ∧ xb < w5.heap.size) := by
        rw [hxr, htq, hCF]; exact HQ.out
      have HRi := Lib.hid (rright_any w5 xr qa qc HQx.out.2.2.2.1 HQx.out.2.2.2.2.2.2.1 HQx.out.2.2.2.2.2.2.2.1 HQx.out.1.1); rw [← HQx.out.2.1] at HRi; clear hxr htq hCF HQ; refine wp_region_lit ?_
      refine wpList_load_at rfl 25 _ rfl ⟨xb, 0, none⟩ rfl (.agg CF) (by rw [HQx.out.2.1]; exact rec_load HQx.out.1) ?_
      iterate 2 go_step
      refine HRi.out.mono ?_; rintro e wA ⟨rfl, hBA⟩
      have HA : Hid (RdAt base wA b tq ∧ Below w5.heap.size w5 wA ∧ Below (zb + 1) w1 wA ∧ base ≤ wA.heap.size) := Lib.hid ⟨HQx.out.2.2.1.below hBA, hBA, HQx.out.2.2.2.2.1.trans (hBA.mono (Nat.le_trans (show zb + 1 ≤ w1.heap.size by rw [H1.out.2.2.1]; exact Nat.le_refl _) HQx.out.2.2.2.2.1.size)), Nat.le_trans HQx.out.2.2.2.2.2.2.2.2.1 hBA.size⟩
      clear hBA HRi; dsimp only
      -- the last test: the reader fails where the record isn't right
      obtain ⟨tl, htl⟩ : ∃ t, t = recLast (xr, tq) := ⟨_, rfl⟩; have HTl := Lib.hid htl; obtain ⟨dn, hdn⟩ : ∃ d, d = tl.done := ⟨_, rfl⟩; have HDn := Lib.hid hdn
      have HEndA : Hid (∀ w', RdAt base w' b tl → Calls Tryd.prog 35 #[.pointer (some ⟨b, 0, none⟩)] w' (fun e w'' => e = .returned (.int .i64 dn) ∧ w'' = w')) := by
        rw [hdn]; exact Lib.hid (fun w' h => rend_any w' base b tl h)
      have HRes : Hid (readR m = if dn = 0 then (xr, 0) else (zeroR, dn)) := by
        unfold readR; rw [HQx.out.2.2.2.2.2.1, hdn, htl]; exact Lib.hid rfl
      clear htl hdn
      by_cases hrr : xr.rightB = true
      · rw [hrr]
        have htl : tl = tq := by rw [HTl.out]; unfold recLast; rw [if_pos hrr]
        have HB : Hid (RdAt base wA b tl ∧ Below (zb + 1) w1 wA ∧ wA.heap[xb]? = some (.cells CF 25 (0, 0)) ∧ ItemsAt wA qa xr.items) := by
          rw [htl, HQx.out.2.1]; exact Lib.hid ⟨HA.out.1, HA.out.2.2.1, (HQx.out.1.below HA.out.2.1).2, HQx.out.2.2.2.1.below HA.out.2.1⟩
        clear htl hrr; go_wp2_with (fail); refine (HEndA.out wA HB.out.1).mono ?_; rintro e wC ⟨rfl, rfl⟩; dsimp only
        by_cases hd : dn = 0
        · subst hd
          have HF : Hid (∀ W7, W7 = wC.setRow zb CF → P (.returned (.tuple #[.agg CF, .int .i64 0])) W7 ∧ W7.heap[zb]? = some (.cells CF 25 (0, 0))) := by
            refine Lib.hid (fun W7 h7 => ?_)
            have hz0 : wC.heap[zb]? = some (.cells ZR 25 (0, 0)) := (HB.out.2.1.block _ (by omega)).trans H1.out.2.1
            refine ⟨?_, by rw [h7]; exact setRow_heap _ _ ZR _ _ _ hz0⟩
            rw [H1.out.2.2.2.2.1, HRes.out, if_pos rfl, HQx.out.2.1]; refine ⟨qa, qc, rfl, ?_, HQx.out.1.1, ?_⟩
            · rw [h7]
              exact items_row HB.out.2.2.2 hz0 (by rw [H1.out.2.2.2.2.2]; exact zero_no_item)
            · rw [h7]
              have hb := H1.out.1.trans (HB.out.2.1.mono (by have := H1.out.2.2.2.1; omega))
              exact hb.trans ⟨rfl, rfl, rfl, by simp, fun k hk => setRow_other _ _ _ _ (by have := H1.out.2.2.2.1; omega)⟩
          go_upto_region 17 with (fail)
          refine wp_region_lit ?_
          refine wpList_load_at rfl 25 _ rfl ⟨xb, 0, none⟩ rfl (.agg CF) (by rw [HQx.out.2.1]; have h := HB.out.2.2.1; rw [HQx.out.2.1] at h; exact rec_load ⟨HQx.out.1.1, h⟩) ?_
          refine wpList_store_row rfl _ _ _ rfl zb CF rfl rfl 25 ZR ((HB.out.2.1.block _ (by have := H1.out.2.2.1; omega)).trans H1.out.2.1) (by rw [HQx.out.2.1]; exact rec_size _ _ _ _ _ HQx.out.1.1) (by rw [H1.out.2.2.2.2.2, zeroC_size, HQx.out.2.1, recC_size HQx.out.1.1]) (by rw [HQx.out.2.1]; exact recC_one _ rfl) ?_
          obtain ⟨W7, hW7⟩ : ∃ W, W = wC.setRow zb CF := ⟨_, rfl⟩; have HE := Lib.hid (HF.out W7 hW7); rw [← hW7]; clear hW7; go_wp2_with (fail); refine bodyPost_ret (v := .tuple #[.agg CF, .int .i64 0]) ?_ rfl HE.out.1
          exact results_cell_tmp (p := 2) (s := 3) rfl _ _ zb 25 CF (0, 0) _ rfl HE.out.2 Tryd.underlying25 rfl (by rw [HQx.out.2.1]; exact rec_size _ _ _ _ _ HQx.out.1.1)
        · have hd1 : (dn != 0) = true := by simpa using hd
          have HF : Hid (∀ W7, W7 = wC.setRow zb ZR → P (.returned (.tuple #[.agg ZR, .int .i64 dn])) W7 ∧ W7.heap[zb]? = some (.cells ZR 25 (0, 0))) := by
            refine Lib.hid (fun W7 h7 => ?_)
            have hz0 : wC.heap[zb]? = some (.cells ZR 25 (0, 0)) := (HB.out.2.1.block _ (by omega)).trans H1.out.2.1
            refine ⟨?_, by rw [h7]; exact setRow_heap _ _ ZR _ _ _ hz0⟩
            rw [H1.out.2.2.2.2.1, HRes.out, if_neg hd, H1.out.2.2.2.2.2]
            refine ⟨none, 0, rfl, .inl rfl, by simp [zeroR, zeroH], ?_⟩
            rw [h7]
            have hb := H1.out.1.trans (HB.out.2.1.mono (by have := H1.out.2.2.2.1; omega))
            exact hb.trans ⟨rfl, rfl, rfl, by simp, fun k hk => setRow_other _ _ _ _ (by have := H1.out.2.2.2.1; omega)⟩
          go_upto_region 16 with (fail)
          refine wp_region_lit ?_
          refine wpList_built_at rfl 25 _ rfl (cs := ZR) (by rw [H1.out.2.2.2.2.2]; simpa using zero_rec.2) ?_
          iterate 3 go_step
          refine wpList_store_row rfl _ _ _ rfl zb ZR rfl rfl 25 ZR ((HB.out.2.1.block _ (by have := H1.out.2.2.1; omega)).trans H1.out.2.1) (by rw [H1.out.2.2.2.2.2]; exact rec_size _ _ _ _ _ (by simp [zeroH])) rfl (by rw [H1.out.2.2.2.2.2]; exact recC_one _ rfl) ?_
          obtain ⟨W7, hW7⟩ : ∃ W, W = wC.setRow zb ZR := ⟨_, rfl⟩; have HE := Lib.hid (HF.out W7 hW7); rw [← hW7]; clear hW7; go_wp2_with (fail); refine bodyPost_ret (v := .tuple #[.agg ZR, .int .i64 dn]) ?_ rfl HE.out.1
          exact results_cell_tmp (p := 2) (s := 3) rfl _ _ zb 25 ZR (0, 0) _ rfl HE.out.2 Tryd.underlying25 rfl (by rw [H1.out.2.2.2.2.2]; exact rec_size _ _ _ _ _ (by simp [zeroH]))

      · rw [Bool.not_eq_true] at hrr; rw [hrr]
        have htl : tl = tq.fail 11 := by rw [HTl.out]; unfold recLast; rw [hrr]; rfl
        have HFl := rfail_any wA base b tq 11 HA.out.1; rw [← htl] at HFl; have HFl := Lib.hid HFl; clear htl hrr; go_wp2_with (fail); refine HFl.out.mono ?_; rintro e wB ⟨rfl, hRB, hgB⟩
        have HB : Hid (RdAt base wB b tl ∧ Below (zb + 1) w1 wB ∧ wB.heap[xb]? = some (.cells CF 25 (0, 0)) ∧ ItemsAt wB qa xr.items) := by
          have hrow := HQx.out.1.below HA.out.2.1
          have hxb : xb ≠ b := by have := H5.out.2.2.2.2.1; have := H2.out.2.2.1; omega
          have hrow2 := hrow.grown hgB hxb
          refine Lib.hid ⟨hRB, below_own HA.out.2.2.1 H2.out.2.1 (by have := HA.out.2.2.1.size; have := H1.out.2.2.1; omega) hgB, by rw [HQx.out.2.1]; exact hrow2.2, ?_⟩
          exact items_far (HQx.out.2.2.2.1.below HA.out.2.1) hgB HA.out.1
        clear hRB hgB HFl; dsimp only; go_wp2_with (fail); refine (HEndA.out wB HB.out.1).mono ?_; rintro e wC ⟨rfl, rfl⟩; dsimp only
        by_cases hd : dn = 0
        · subst hd
          have HF : Hid (∀ W7, W7 = wC.setRow zb CF → P (.returned (.tuple #[.agg CF, .int .i64 0])) W7 ∧ W7.heap[zb]? = some (.cells CF 25 (0, 0))) := by
            refine Lib.hid (fun W7 h7 => ?_)
            have hz0 : wC.heap[zb]? = some (.cells ZR 25 (0, 0)) := (HB.out.2.1.block _ (by omega)).trans H1.out.2.1
            refine ⟨?_, by rw [h7]; exact setRow_heap _ _ ZR _ _ _ hz0⟩
            rw [H1.out.2.2.2.2.1, HRes.out, if_pos rfl, HQx.out.2.1]; refine ⟨qa, qc, rfl, ?_, HQx.out.1.1, ?_⟩
            · rw [h7]
              exact items_row HB.out.2.2.2 hz0 (by rw [H1.out.2.2.2.2.2]; exact zero_no_item)
            · rw [h7]
              have hb := H1.out.1.trans (HB.out.2.1.mono (by have := H1.out.2.2.2.1; omega))
              exact hb.trans ⟨rfl, rfl, rfl, by simp, fun k hk => setRow_other _ _ _ _ (by have := H1.out.2.2.2.1; omega)⟩
          go_upto_region 17 with (fail)
          refine wp_region_lit ?_
          refine wpList_load_at rfl 25 _ rfl ⟨xb, 0, none⟩ rfl (.agg CF) (by rw [HQx.out.2.1]; have h := HB.out.2.2.1; rw [HQx.out.2.1] at h; exact rec_load ⟨HQx.out.1.1, h⟩) ?_
          refine wpList_store_row rfl _ _ _ rfl zb CF rfl rfl 25 ZR ((HB.out.2.1.block _ (by have := H1.out.2.2.1; omega)).trans H1.out.2.1) (by rw [HQx.out.2.1]; exact rec_size _ _ _ _ _ HQx.out.1.1) (by rw [H1.out.2.2.2.2.2, zeroC_size, HQx.out.2.1, recC_size HQx.out.1.1]) (by rw [HQx.out.2.1]; exact recC_one _ rfl) ?_
          obtain ⟨W7, hW7⟩ : ∃ W, W = wC.setRow zb CF := ⟨_, rfl⟩; have HE := Lib.hid (HF.out W7 hW7); rw [← hW7]; clear hW7; go_wp2_with (fail); refine bodyPost_ret (v := .tuple #[.agg CF, .int .i64 0]) ?_ rfl HE.out.1
          exact results_cell_tmp (p := 2) (s := 3) rfl _ _ zb 25 CF (0, 0) _ rfl HE.out.2 Tryd.underlying25 rfl (by rw [HQx.out.2.1]; exact rec_size _ _ _ _ _ HQx.out.1.1)
        · have hd1 : (dn != 0) = true := by simpa using hd
          have HF : Hid (∀ W7, W7 = wC.setRow zb ZR → P (.returned (.tuple #[.agg ZR, .int .i64 dn])) W7 ∧ W7.heap[zb]? = some (.cells ZR 25 (0, 0))) := by
            refine Lib.hid (fun W7 h7 => ?_)
            have hz0 : wC.heap[zb]? = some (.cells ZR 25 (0, 0)) := (HB.out.2.1.block _ (by omega)).trans H1.out.2.1
            refine ⟨?_, by rw [h7]; exact setRow_heap _ _ ZR _ _ _ hz0⟩
            rw [H1.out.2.2.2.2.1, HRes.out, if_neg hd, H1.out.2.2.2.2.2]
            refine ⟨none, 0, rfl, .inl rfl, by simp [zeroR, zeroH], ?_⟩
            rw [h7]
            have hb := H1.out.1.trans (HB.out.2.1.mono (by have := H1.out.2.2.2.1; omega))
            exact hb.trans ⟨rfl, rfl, rfl, by simp, fun k hk => setRow_other _ _ _ _ (by have := H1.out.2.2.2.1; omega)⟩
          go_upto_region 16 with (fail)
          refine wp_region_lit ?_
          refine wpList_built_at rfl 25 _ rfl (cs := ZR) (by rw [H1.out.2.2.2.2.2]; simpa using zero_rec.2) ?_
          iterate 3 go_step
          refine wpList_store_row rfl _ _ _ rfl zb ZR rfl rfl 25 ZR ((HB.out.2.1.block _ (by have := H1.out.2.2.1; omega)).trans H1.out.2.1) (by rw [H1.out.2.2.2.2.2]; exact rec_size _ _ _ _ _ (by simp [zeroH])) rfl (by rw [H1.out.2.2.2.2.2]; exact recC_one _ rfl) ?_
          obtain ⟨W7, hW7⟩ : ∃ W, W = wC.setRow zb ZR := ⟨_, rfl⟩; have HE := Lib.hid (HF.out W7 hW7); rw [← hW7]; clear hW7; go_wp2_with (fail); refine bodyPost_ret (v := .tuple #[.agg ZR, .int .i64 dn]) ?_ rfl HE.out.1
          exact results_cell_tmp (p := 2) (s := 3) rfl _ _ zb 25 ZR (0, 0) _ rfl HE.out.2 Tryd.underlying25 rfl (by rw [H1.out.2.2.2.2.2]; exact rec_size _ _ _ _ _ (by simp [zeroH]))
end Go.Proofs.YtdmnhgbdeifpbaaDoor
namespace Go.Proofs.YtdmnhgbdeifpbaaDoor
open Go Go.RowKit
def RdBytes2 (base : Nat) (w : World) (b : Nat) (x : List (BitVec 8) × TapeL) (e : Ending) (w' : World) : Prop :=
  ∃ a c, e = .returned (.slice a x.1.length c) ∧ x.1.length ≤ c ∧ c ≤ 9223372036854775807 ∧ (a = none → c = 0) ∧ SrcN w.heap.size w' a x.1 ∧ RdAt base w' b x.2 ∧ w.grownBy w' (some b)
set_option maxRecDepth 100000 in
set_option maxHeartbeats 1000000 in
theorem rfixed2_any (w : World) (base b : Nat) (t : TapeL) (n : Int) (h : RdAt base w b t) :
    Calls Tryd.prog 33 #[.pointer (some ⟨b, 0, none⟩), .int .i64 n] w (RdBytes2 base w b (t.fixed n)) := by
  obtain ⟨a, L, c, hb, hL, hLc, hcm, hac, hsr, hte, hlen⟩ := id h; obtain ⟨c0, c1, f0, f1⟩ := rd_cells hb
  by_cases hneg : n < 0
  · rw [fixed_neg hneg]; have HF := Lib.hid (rfail_any w base b t 2 h); clear h hb hL hLc hcm hac hsr hte hlen
    go_enter Tryd.func33, Tryd.ntmps33
    go_wp2_with (fail); refine HF.out.mono ?_; rintro e w1 ⟨rfl, hT1, hg1⟩; have H1 := Lib.hid (And.intro hT1 hg1); clear hT1 hg1; dsimp only; go_wp2_with (fail); go_ret
    exact ⟨none, 0, rfl, Nat.le_refl _, by decide, fun _ => rfl, .inl rfl, H1.out⟩
  · obtain ⟨m, rfl⟩ := Int.eq_ofNat_of_zero_le (show 0 ≤ n by omega)
    have m0 : ¬ (m : Int) < 0 := hneg
    by_cases hlong : L < m
    · have m1 : (L : Int) < (m : Int) := by omega
      rw [fixed_long (by rw [← hL]; exact m1)]
      have HF := Lib.hid (rfail_any w base b t 10 h); clear h hb hL hLc hcm hac hsr hte hlen hlong hneg
      go_enter Tryd.func33, Tryd.ntmps33
      go_wp2_with (fail); refine HF.out.mono ?_; rintro e w1 ⟨rfl, hT1, hg1⟩; have H1 := Lib.hid (And.intro hT1 hg1); clear hT1 hg1; dsimp only; go_wp2_with (fail); go_ret
      exact ⟨none, 0, rfl, Nat.le_refl _, by decide, fun _ => rfl, .inl rfl, H1.out⟩
    · have m1 : ¬ (L : Int) < (m : Int) := by omega
      rw [fixed_good (by omega) hte]
      have hsl : ∀ w, (Instr.slice 26 (.slice a L c) none (some (.int .i64 (m : Int))) none).run Tryd.prog w = .ok (.slice a m c) w := fun w =>
        run_slice_sl_h 26 5 Tryd.underlying26 (fun w => Tryd.sizeOf5 w) a L c m (by omega) w
      obtain ⟨sa, hsa⟩ : ∃ sa, sa = if c = m then a else a.map (·.add m) := ⟨_, rfl⟩
      obtain ⟨sn, hsn⟩ : ∃ sn, sn = L - m := ⟨_, rfl⟩; obtain ⟨sc, hsc⟩ : ∃ sc, sc = c - m := ⟨_, rfl⟩
      have hsl2 : ∀ w, (Instr.slice 26 (.slice a L c) (some (.int .i64 (m : Int))) none none).run Tryd.prog w = .ok (.slice sa sn sc) w := fun w => by
        rw [hsa, hsn, hsc]
        exact run_slice_sl_any 26 5 Tryd.underlying26 (fun w => Tryd.sizeOf5 w) a L c m (by omega) w
      have hml : m = (t.s.take m).length := by rw [List.length_take]; omega
      have HC := Lib.hid (bclone_any w a c m (t.s.take m) hml (hsr.take m) hac (by rw [← hml]; omega))
      have HX := Lib.hid (And.intro hb (And.intro hL (And.intro hLc (And.intro hcm (And.intro hac (And.intro hsr (And.intro hte (And.intro hlen (And.intro hsa (And.intro hsn (And.intro hsc (And.intro hlong hml)))))))))))); clear h hb hL hLc hcm hac hsr hte hlen hlong hneg hsa hsn hsc hml
      go_enter Tryd.func33, Tryd.ntmps33
      go_wp2_with (fail); refine HC.out.mono ?_; rintro e w1 ⟨a', c', rfl, qc1, qc2, qc3, hsn1, hB1⟩; have HCC := Lib.hid (And.intro qc1 (And.intro qc2 qc3)); clear qc1 qc2 qc3; obtain ⟨hb, hL, hLc, hcm, hac, hsr, hte, hlen, hsa, hsn, hsc, hlong, hml⟩ := HX.out; have hbl := (Array.getElem?_eq_some_iff.1 hb).1; have hb1 := (hB1.block b hbl).trans hb; obtain ⟨d0, d1, g0, g1⟩ := rd_cells hb1; rw [← hml]; have H1 := Lib.hid (And.intro hsn1 (And.intro hB1 hb1)); clear hb hL hLc hcm hac hsr hte hlen hsa hsn hsc hlong hml hbl hb1 hsn1 hB1; dsimp only; go_wp2_with (fail); go_ret; obtain ⟨hb, hL, hLc, hcm, hac, hsr, hte, hlen, hsa, hsn, hsc, hlong, hml⟩ := HX.out; obtain ⟨hsn1, hB1, hb1⟩ := H1.out; have hbl := (Array.getElem?_eq_some_iff.1 hb).1; have hg := grown_setCell w1 b 0 (.slice sa sn sc); have hgw : w.grownBy w1 (some b) := ⟨hB1.os, hB1.tape, hB1.output, hB1.size, fun k hk _ => hB1.block k hk⟩
      refine ⟨a', c', by show _ = Ending.returned (.slice a' (t.s.take m).length c'); rw [← hml]; rfl, HCC.out.1, HCC.out.2.1, HCC.out.2.2, hsn1.grown hg hbl, ⟨sa, sn, sc, heap_setCell_same w1 b 0 _ _ (.slice sa sn sc) hb1, ?_, by omega, by omega, ?_, ?_, ?_, ?_⟩, grown_trans hgw hg⟩
      · show sn = (t.s.drop m).length
        rw [List.length_drop, hsn, hL]
      · intro h; rw [hsa] at h
        by_cases hcm' : c = m
        · rw [hsc]; omega
        · rw [if_neg hcm'] at h
          have : a = none := by
            cases a with
            | none => rfl
            | some a => cases h
          have := hac this; omega
      · have := ((hsr.grown hgw).grown hg).drop m c (by omega) (by omega)
        rw [← hsa] at this; exact this
      · intro h
        show t.s.drop m = []
        rw [hte h]; simp
      · show (t.s.drop m).length ≤ _
        rw [List.length_drop]; omega
end Go.Proofs.YtdmnhgbdeifpbaaDoor
