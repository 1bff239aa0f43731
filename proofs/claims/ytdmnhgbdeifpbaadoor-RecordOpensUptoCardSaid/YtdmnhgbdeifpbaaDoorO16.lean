/-
  Part 16 of 42 of what the proof leans on.
-/
import Derived.Test.YtdmnhgbdeifpbaaDoorO12
import Derived.Test.YtdmnhgbdeifpbaaDoorO15
import Derived.Test.YtdmnhgbdeifpbaaDoorO10
import Derived.Test.YtdmnhgbdeifpbaaDoorO13
namespace Go.Proofs.YtdmnhgbdeifpbaaDoor
open Go Go.RowKit
structure RecL where
  kind : Int
  seq : Int
  items : List ItemL
  area : Int
  root : List (BitVec 8)
def zeroH : List (BitVec 8) := List.replicate 32 0
def zeroR : RecL := ⟨0, 0, [], 0, zeroH⟩
def RecL.rightB (x : RecL) : Bool :=
  decide (1 ≤ x.seq ∧ x.seq ≤ 1099511627776) && if x.kind = 1 then decide (x.area = 0) && (decide (x.root = zeroH) && (decide (x.items.length ≤ 64) && x.items.all (·.rightB)))
    else decide (x.kind = 2) && (decide (0 ≤ x.area ∧ x.area ≤ 1) && decide (x.items.length = 0))
def RecL.body (x : RecL) : List (BitVec 8) :=
  wordL x.kind.toNat ++ wordL x.seq.toNat ++ if x.kind = 1 then listL x.items else wordL x.area.toNat ++ x.root
def RecL.told (x : RecL) : List (BitVec 8) := if x.rightB then x.body else []
def headL (ahead body : List (BitVec 8)) : List (BitVec 8) := shaL (2 :: ahead ++ body)
def tagL (key head : List (BitVec 8)) : List (BitVec 8) := shaL (macL key (76 :: head))
def noughtN (n : Nat) : Nat := (128 - n % 128) % 128
def sealB (key ahead body : List (BitVec 8)) : List (BitVec 8) :=
  textL body ++ tagL key (headL ahead body) ++ List.replicate (noughtN ((textL body).length + 32)) 0
def RecL.sealed (x : RecL) (key ahead : List (BitVec 8)) : List (BitVec 8) × List (BitVec 8) := if x.rightB then (sealB key ahead x.body, headL ahead x.body) else ([], ahead)
def RecL.blocks (x : RecL) : Nat := if x.rightB then ((textL x.body).length + 32 + noughtN ((textL x.body).length + 32)) / 128 else 0
def rec0 (t : TapeL) : RecL × TapeL :=
  if (t.number 9223372036854775807).1 = 1 then
    (⟨1, ((t.number 9223372036854775807).2.number 9223372036854775807).1, (itemsN (((t.number 9223372036854775807).2.number 9223372036854775807).2.number 64).1.toNat (((t.number 9223372036854775807).2.number 9223372036854775807).2.number 64).2).1, 0, zeroH⟩,
      (itemsN (((t.number 9223372036854775807).2.number 9223372036854775807).2.number 64).1.toNat (((t.number 9223372036854775807).2.number 9223372036854775807).2.number 64).2).2)
  else if (t.number 9223372036854775807).1 = 2 then
    (⟨2, ((t.number 9223372036854775807).2.number 9223372036854775807).1, [], (((t.number 9223372036854775807).2.number 9223372036854775807).2.number 1).1,
        ((((t.number 9223372036854775807).2.number 9223372036854775807).2.number 1).2.fixed 32).1 ++ zeroH.drop ((((t.number 9223372036854775807).2.number 9223372036854775807).2.number 1).2.fixed 32).1.length⟩,
      ((((t.number 9223372036854775807).2.number 9223372036854775807).2.number 1).2.fixed 32).2)
  else (⟨(t.number 9223372036854775807).1, ((t.number 9223372036854775807).2.number 9223372036854775807).1, [], 0, zeroH⟩, ((t.number 9223372036854775807).2.number 9223372036854775807).2)
def recLast (p : RecL × TapeL) : TapeL := if p.1.rightB then p.2 else p.2.fail 11
def readR (b : List (BitVec 8)) : RecL × Int := if (recLast (rec0 ⟨b, 0⟩)).done = 0 then ((rec0 ⟨b, 0⟩).1, 0) else (zeroR, (recLast (rec0 ⟨b, 0⟩)).done)
structure TakenL where
  body : List (BitVec 8)
  tag : List (BitVec 8)
  behind : List (BitVec 8)
  blocks : Nat
  e : Int
def take1 (b : List (BitVec 8)) : Int × TapeL := (TapeL.mk b 0).number 9223372036854775807
def take2 (b : List (BitVec 8)) : TapeL := if 4096 < (take1 b).1 then (take1 b).2.fail 11 else (take1 b).2
def take3 (b : List (BitVec 8)) : List (BitVec 8) × TapeL := (take2 b).fixed (take1 b).1
def take4 (b : List (BitVec 8)) : List (BitVec 8) × TapeL := (take3 b).2.fixed 32
def take5 (b : List (BitVec 8)) : List (BitVec 8) × TapeL := (take4 b).2.fixed ((noughtN (b.length - (take4 b).2.s.length) : Nat) : Int)
def takeB (b : List (BitVec 8)) : TakenL := ⟨(take3 b).1, (take4 b).1, (take5 b).1, (b.length - (take4 b).2.s.length + (take5 b).1.length) / 128, (take5 b).2.e⟩
def openB (key ahead : List (BitVec 8)) (seq : Int) (b : List (BitVec 8)) : RecL × List (BitVec 8) × Nat × Int :=
  if (takeB b).e ≠ 0 then (zeroR, ahead, 0, (takeB b).e)
  else if tagL key (headL ahead (takeB b).body) ≠ (takeB b).tag ∨ ((takeB b).behind.any fun x => x != 0) = true then (zeroR, ahead, 0, 40)
  else if (readR (takeB b).body).2 ≠ 0 then (zeroR, ahead, 0, (readR (takeB b).body).2)
  else if (readR (takeB b).body).1.seq ≠ seq then (zeroR, ahead, 0, 40)
  else ((readR (takeB b).body).1, headL ahead (takeB b).body, (takeB b).blocks, 0)
end Go.Proofs.YtdmnhgbdeifpbaaDoor
namespace Go.Proofs.YtdmnhgbdeifpbaaDoor
open Go Go.RowKit
def byA (l : List (BitVec 8)) : Array Value := (l.map B).toArray
def recC (k s : Int) (iv : Value) (a : Int) (r : List (BitVec 8)) : Array Value := #[.int .i64 k, .int .i64 s, iv, .int .i64 a] ++ byA r
theorem byA_size (l : List (BitVec 8)) : (byA l).size = l.length := by simp [byA]
theorem byA_at (l : List (BitVec 8)) (i : Nat) (h : i < l.length) : (byA l)[i]? = some (B (gl l i)) := list_map_at l i h
theorem recC_root {k s a : Int} {iv : Value} {r : List (BitVec 8)} (j : Nat) : (recC k s iv a r)[4 + j]? = (byA r)[j]? := by
  unfold recC
  rw [Array.getElem?_append_right (by simp)]
  simp
theorem recC_low {k s a : Int} {iv : Value} {r : List (BitVec 8)} {j : Nat} (h : j < 4) : (recC k s iv a r)[j]? = #[Value.int .i64 k, .int .i64 s, iv, .int .i64 a][j]? := by
  unfold recC
  rw [Array.getElem?_append_left (by simpa using h)]
theorem load_arr {w : World} {b o : Nat} {r : List (BitVec 8)} (hr : r.length = 32) (hc : ∀ j v, (byA r)[j]? = some v → w.cell? ⟨b, o + j, none⟩ = some v) : (loadVar 23 ⟨b, o, none⟩).run Tryd.prog w = .ok (.agg (byA r)) w := by
  have hagg : ∀ w, (isAgg 23).run Tryd.prog w = .ok true w := Tryd.isAgg23; have hs : ∀ w, (sizeOf 23).run Tryd.prog w = .ok 32 w := Tryd.sizeOf23
  have := run_loadCells_list (P := Tryd.prog) w ⟨b, o, none⟩ (byA r).toList (fun j v hv => by
    rw [addr_add]
    exact hc j v (by simpa using hv))
  rw [show (byA r).toList.length = 32 by simp [byA, hr]] at this
  simp [loadVar, hagg, hs, this, Result.andThen]
def RowR (w : World) (b : Nat) (k s : Int) (iv : Value) (a : Int) (r : List (BitVec 8)) : Prop := r.length = 32 ∧ w.heap[b]? = some (.cells (recC k s iv a r) 25 (0, 0))
theorem RowR.below {w w' : World} {b : Nat} {k s a : Int} {iv : Value} {r : List (BitVec 8)} (h : RowR w b k s iv a r) (hB : Below w.heap.size w w') : RowR w' b k s iv a r := ⟨h.1, (hB.block b (Array.getElem?_eq_some_iff.1 h.2).1).trans h.2⟩
theorem RowR.lt {w : World} {b : Nat} {k s a : Int} {iv : Value} {r : List (BitVec 8)} (h : RowR w b k s iv a r) : b < w.heap.size := (Array.getElem?_eq_some_iff.1 h.2).1
def D5 (w : World) (b : Nat) (k s : Int) (iv : Value) (a : Int) (r : List (BitVec 8)) : Prop :=
  w.cell? ⟨b, 0, none⟩ = some (.int .i64 k) ∧ w.cell? ⟨b, 1, none⟩ = some (.int .i64 s) ∧ w.cell? ⟨b, 2, none⟩ = some iv ∧ w.cell? ⟨b, 3, none⟩ = some (.int .i64 a) ∧
    (loadVar 23 ⟨b, 4, none⟩).run Tryd.prog w = .ok (.agg (byA r)) w ∧ (loadVar 25 ⟨b, 0, none⟩).run Tryd.prog w = .ok (.agg (recC k s iv a r)) w
theorem rec_size (k s a : Int) (iv : Value) (r : List (BitVec 8)) (h : r.length = 32) : (Tryd.prog.info? 25).map (·.size) = some (recC k s iv a r).size := by
  rw [show (recC k s iv a r).size = 36 by simp [recC, byA, h]]
  kernel_rfl
theorem arr_size (r : List (BitVec 8)) (h : r.length = 32) : (Tryd.prog.info? 23).map (·.size) = some (byA r).size := by
  rw [byA_size, h]
  kernel_rfl
theorem rec_load {w : World} {b : Nat} {k s a : Int} {iv : Value} {r : List (BitVec 8)} (h : RowR w b k s iv a r) : (loadVar 25 ⟨b, 0, none⟩).run Tryd.prog w = .ok (.agg (recC k s iv a r)) w :=
  run_loadVar_row w b _ _ _ _ _ h.2 Tryd.underlying25 rfl (rec_size k s a iv r h.1)
theorem RowR.d5 {w : World} {b : Nat} {k s a : Int} {iv : Value} {r : List (BitVec 8)} (h : RowR w b k s iv a r) : D5 w b k s iv a r := by
  refine ⟨?_, ?_, ?_, ?_, load_arr h.1 fun j v hj => ?_, rec_load h⟩
  · rw [cell_of_row _ _ _ _ _ _ h.2, recC_low (by decide)]; rfl
  · rw [cell_of_row _ _ _ _ _ _ h.2, recC_low (by decide)]; rfl
  · rw [cell_of_row _ _ _ _ _ _ h.2, recC_low (by decide)]; rfl
  · rw [cell_of_row _ _ _ _ _ _ h.2, recC_low (by decide)]; rfl
  · rw [cell_of_row _ _ _ _ _ _ h.2, recC_root]; exact hj
theorem byA_one (r : List (BitVec 8)) : (byA r).all (·.oneCell') = true := row_one r
theorem recC_one {k s a : Int} {iv : Value} (r : List (BitVec 8)) (h : iv.oneCell' = true) : (recC k s iv a r).all (·.oneCell') = true := by
  rw [recC, Array.all_append, byA_one]; simp [h]; exact ⟨rfl, rfl, rfl⟩
theorem byA_inj {r q : List (BitVec 8)} (h : r.length = q.length) : ((List.range r.length).all fun i => gl r i == gl q i) = decide (r = q) := by
  rw [Bool.eq_iff_iff, List.all_eq_true, decide_eq_true_eq, list_eq_gl h]; simp
theorem run_eql_root (w : World) (r q : List (BitVec 8)) (hr : r.length = 32) (hq : q.length = 32) : (binOp .eql 23 (.agg (byA r)) (.agg (byA q))).run Tryd.prog w = .ok (.bool (decide (r = q))) w := by
  have hz : ∀ w, (sizeOf 5).run Tryd.prog w = .ok 1 w := Tryd.sizeOf5; have hg : ∀ w, (isAgg 5).run Tryd.prog w = .ok false w := Tryd.isAgg5
  have h := run_equalIn_bytes (P := Tryd.prog) 9998 23 5 32 Tryd.underlying23 Tryd.underlying5 hz hg (gl r) (gl q) (byA r) (byA q) (fun i hi => byA_at r i (by omega)) (fun i hi => byA_at q i (by omega)) w
  have hj := byA_inj (hr.trans hq.symm); rw [hr] at hj; rw [hj] at h; rw [run_eql_struct, h]; rfl
theorem run_guard_root (w : World) (op : BinOp) (o1 o2 : Operand) (r q : List (BitVec 8)) : (eqGuard op 23 o1 o2 (.agg (byA r)) (.agg (byA q))).run Tryd.prog w = .ok () w := run_eqGuard_agg w op _ o1 o2 _ _ (by kernel_rfl)
attribute [go_sem] run_guard_root
theorem wpList_wanted {P : Program} {ops : Array Oper} {rest : List Oper} {o : Oper} {a : Act} {w : World} {Q : Exit → Act → World → Prop} (hw : Region.wanted o (yielded ops a.tmps) = true)
    (h : ∀ K : Act → World → Prop, (∀ a w, wpList P ops Q rest a w → K a w) → o.wp P a w K Q) : wpList P ops Q (o :: rest) a w :=
  wpList_step fun K hK => by simp only [hw, if_true]; exact h K hK
theorem wp_load_at {o : Oper} {a : Act} {w : World} {K : Act → World → Prop} {Q : Exit → Act → World → Prop} (ty : TypeId) (x : Operand) (ho : o.op = .load ty x) (A : Addr) (hx : a.eval x = .pointer (some A)) (V : Value) (hl : (loadVar ty A).run Tryd.prog w = .ok V w) (h : K (a.put o.dst V) w) : o.wp Tryd.prog a w K Q := by
  unfold Oper.wp execOp; simp only [ho, hx, Instr.loadAt, Instr.sureAddr, Sem.run_bind, Sem.run_pure, Result.andThen_ok, hl]; exact h
theorem wpList_load_at {ops : Array Oper} {rest : List Oper} {o : Oper} {a : Act} {w : World} {Q : Exit → Act → World → Prop} (hw : Region.wanted o (yielded ops a.tmps) = true) (ty : TypeId) (x : Operand) (ho : o.op = .load ty x) (A : Addr) (hx : a.eval x = .pointer (some A)) (V : Value)
    (hl : (loadVar ty A).run Tryd.prog w = .ok V w) (h : wpList Tryd.prog ops Q rest (a.put o.dst V) w) : wpList Tryd.prog ops Q (o :: rest) a w :=
  wpList_wanted hw fun _ hK => wp_load_at ty x ho A hx V hl (hK _ _ h)
theorem wpList_built_at {P : Program} {ops : Array Oper} {rest : List Oper} {o : Oper} {a : Act} {w : World} {Q : Exit → Act → World → Prop} (hw : Region.wanted o (yielded ops a.tmps) = true) (t : TypeId) (parts : Array (Nat × Operand)) (ho : o.op = .build t parts) {cs : Array Value}
    (hb : P.built t (parts.map fun (i, x) => (i, a.eval x)).toList = some cs) (h : wpList P ops Q rest (a.put o.dst (.agg cs)) w) : wpList P ops Q (o :: rest) a w :=
  wpList_wanted hw fun _ hK => by
    unfold Oper.wp execOp; simp only [ho, Sem.run_bind, run_build w t _ cs hb, Result.andThen_ok, Sem.run_pure]; exact hK _ _ h
end Go.Proofs.YtdmnhgbdeifpbaaDoor
namespace Go.Proofs.YtdmnhgbdeifpbaaDoor
open Go Go.RowKit
def RiL (w : World) (l : List ItemL) (i : Value) (wr : World) : Prop := ∃ t : Nat, t ≤ l.length ∧ i = .int .i64 (t : Int) ∧ (l.take t).all (·.rightB) = true ∧ Below w.heap.size w wr
theorem all_next {l : List ItemL} {t : Nat} {x : ItemL} (hx : l[t]? = some x) : (l.take (t + 1)).all (·.rightB) = ((l.take t).all (·.rightB) && x.rightB) := by
  obtain ⟨ht, rfl⟩ := List.getElem?_eq_some_iff.1 hx; rw [List.take_succ_eq_append_getElem ht, List.all_append]; simp
theorem all_bad {l : List ItemL} {t : Nat} {x : ItemL} (hx : l[t]? = some x) (hr : x.rightB = false) : l.all (·.rightB) = false := by
  rw [Bool.eq_false_iff]; intro h; have := List.all_eq_true.1 h x (List.mem_of_getElem? hx); rw [hr] at this
  cases this
set_option maxRecDepth 100000 in
set_option maxHeartbeats 2000000 in
theorem ritems_any (w : World) (la : Option Addr) (lc : Nat) (l : List ItemL) (hI : ItemsAt w la l) (hk : ∀ x ∈ l, x.key.length ≤ 1000000) (hl : l.length ≤ 1000000) :
    Calls Tryd.prog 41 #[.slice la l.length lc] w (Below0 w (.bool (l.all (·.rightB)))) := by
  obtain ⟨L, hL⟩ : ∃ L, L = l.length := ⟨_, rfl⟩; have HP := Lib.hid (And.intro hI (And.intro hk (And.intro hL hl)))
  obtain ⟨R, hR⟩ : ∃ R, R = l.all (·.rightB) := ⟨_, rfl⟩
  rw [← hL, ← hR]; have HRR := Lib.hid hR
  have hL6 : L ≤ 1000000 := by omega
  clear hI hk hL hl hR
  go_enter Tryd.func41, Tryd.ntmps41
  go_wp2_with (fail)
  go_loopw [7] (RiL w l) (fun i _ => L - (intOf i).toNat)
  case atStart => exact ⟨0, Nat.zero_le _, rfl, by simp, Below.refl _ _⟩
  case round =>
    obtain ⟨t, ht, rfl, hal, hB⟩ := hrel; rw [← HP.out.2.2.1] at ht
    by_cases hlt : t < L
    · have hi0 : (0 : Int) ≤ (t : Int) ∧ (t : Int) < (L : Int) := by omega
      obtain ⟨x, pb, po, hx, rfl, d0, d1, d2, d3⟩ := (HP.out.1.below hB).get (t := t) (by rw [← HP.out.2.2.1]; exact hlt)
      have hxk := HP.out.2.1 x (List.mem_of_getElem? hx); obtain ⟨r, hr⟩ : ∃ r, r = x.rightB := ⟨_, rfl⟩; obtain ⟨wo, hwo⟩ : ∃ wo, wo = wr.alloc (.cells x.cells 53) := ⟨_, rfl⟩
      have hBo : Below wr.heap.size wr wo := by rw [hwo]; exact (Below.refl _ wr).alloc (Nat.le_refl _) _
      have hrow : wo.heap[wr.heap.size]? = some (.cells x.cells 53 (0, 0)) := by rw [hwo]; exact heap_alloc_new wr _
      have HR : Hid (Calls Tryd.prog 66 #[.agg x.cells] wo (Below0 wo (.bool r))) := by
        rw [hr]; exact eright_any wo x hxk
      have HZ : Hid (∀ w3, Below wo.heap.size wo w3 → Below w.heap.size w w3 ∧ (r = false → R = false) ∧ (r = true → RiL w l (.int .i64 ((t : Int) + 1)) w3)) := by
        refine Lib.hid (fun w3 h3 => ?_); have hB3 : Below w.heap.size w w3 := hB.trans ((hBo.trans (h3.mono hBo.size)).mono hB.size)
        refine ⟨hB3, fun h => ?_, fun h => ⟨t + 1, by rw [← HP.out.2.2.1]; omega, by go_num, ?_, hB3⟩⟩
        · rw [HRR.out]; exact all_bad hx (hr.symm.trans h)
        · rw [all_next hx, hal, ← hr, h]; rfl
      have HL := Lib.hid hlt
      have co0 : wo.cell? ⟨wr.heap.size, 0, none⟩ = some (.int .i64 x.kind) := by rw [cell_of_row _ _ 0 _ _ _ hrow]; rfl
      have co1 : wo.cell? ⟨wr.heap.size, 1, none⟩ = some (Sv x.key) := by rw [cell_of_row _ _ 1 _ _ _ hrow]; rfl
      have co2 : wo.cell? ⟨wr.heap.size, 2, none⟩ = some (.int .i64 x.time) := by rw [cell_of_row _ _ 2 _ _ _ hrow]; rfl
      have co3 : wo.cell? ⟨wr.heap.size, 3, none⟩ = some (.int .i64 x.value) := by rw [cell_of_row _ _ 3 _ _ _ hrow]; rfl
      unfold ItemL.cells at hwo HR; obtain ⟨kind, key, time, value⟩ := x; simp only at d0 d1 d2 d3 co0 co1 co2 co3 hwo HR; clear hB hx hxk hr hBo hrow hal
      go_upto_region 4 with (fail)
      rw [← hwo]; clear hwo d0 d1 d2 d3
      cases r with
      | true =>
        go_wp2_with (fail); refine HR.out.mono ?_; rintro e w3 ⟨rfl, hB3⟩; have H3 := Lib.hid ((HZ.out w3 hB3).2.2 trivial); clear hB3 co0 co1 co2 co3; dsimp only; go_wp2_with (fail); have := HL.out
        exact ⟨H3.out, by simp [intOf]; omega⟩
      | false =>
        go_wp2_with (fail); refine HR.out.mono ?_; rintro e w3 ⟨rfl, hB3⟩; obtain ⟨k1, k2, _⟩ := HZ.out w3 hB3; have H3 := Lib.hid k1; obtain rfl : R = false := k2 trivial; clear hB3 co0 co1 co2 co3 k1 k2; dsimp only; go_wp2_with (fail); go_ret; exact ⟨rfl, H3.out⟩
    · obtain rfl : t = L := by omega
      rw [HP.out.2.2.1, List.take_length] at hal; obtain rfl : R = true := HRR.out.trans hal; have HB := Lib.hid hB; clear hB hlt hal; go_wp2_with (fail); go_ret; exact ⟨rfl, HB.out⟩
theorem noughts_any (w : World) (n : Nat) (hn : n ≤ 1000000000) : Calls Tryd.prog 47 #[.int .i64 (n : Int)] w fun e w' => e = .returned (.int .i64 ((noughtN n : Nat) : Int)) ∧ w' = w := by
  obtain ⟨r, hr⟩ : ∃ r, r = noughtN n := ⟨_, rfl⟩
  have h1 : (128 - (n : Int) % 128) % 128 = (r : Int) := by rw [hr]; unfold noughtN; omega
  have h2 : 0 ≤ (n : Int) % 128 ∧ (n : Int) % 128 < 128 := by omega
  rw [← hr]; have HR := Lib.hid hr; clear hr; obtain ⟨m, hm⟩ : ∃ m, m = (n : Int) % 128 := ⟨_, rfl⟩
  have h0 : (0 : Int) ≤ (n : Int) := by omega
  have t1 : Int.tmod (n : Int) 128 = m := by rw [hm, Int.tmod_eq_emod_of_nonneg h0]
  have t2 : Int.tmod (128 - m) 128 = (r : Int) := by rw [← h1, hm, Int.tmod_eq_emod_of_nonneg (by omega)]
  rw [← hm] at h1 h2; clear hm
  go_enter Tryd.func47, Tryd.ntmps47
  go_wp2_with (fail); go_ret
  exact ⟨by first | rfl | (rw [t2]; rfl) | (rw [h1]; rfl), rfl⟩
theorem filled_any (w : World) (x : BitVec 8) : Calls Tryd.prog 56 #[B x] w fun e w' => e = .returned (.bool (x != 0)) ∧ w' = w := by
  obtain ⟨r, hr⟩ : ∃ r, r = (x != 0) := ⟨_, rfl⟩; obtain ⟨n, hn⟩ : ∃ n : Int, n = (x.toNat : Int) := ⟨_, rfl⟩
  have h0 : (n != 0) = r := by
    rw [hr, hn, Bool.eq_iff_iff, bne_iff_ne, bne_iff_ne]
    constructor
    · rintro h rfl; exact h rfl
    · intro h h'
      exact h (BitVec.eq_of_toNat_eq (by simpa using h'))
  rw [show B x = .int .u8 n by rw [hn]; rfl, ← hr]
  clear hr hn
  cases r with
  | true =>
    go_enter Tryd.func56, Tryd.ntmps56
    go_wp2_with (fail); go_ret; exact ⟨rfl, rfl⟩
  | false =>
    go_enter Tryd.func56, Tryd.ntmps56
    go_wp2_with (fail); go_ret; exact ⟨rfl, rfl⟩
end Go.Proofs.YtdmnhgbdeifpbaaDoor
namespace Go.Proofs.YtdmnhgbdeifpbaaDoor
open Go Go.RowKit
theorem zero_root : (∀ w, (zeroValue 23).run Tryd.prog w = .ok (.agg (byA zeroH)) w) ∧ Tryd.prog.built 23 [] = some (byA zeroH) := by
  constructor
  · rw [show byA zeroH = Array.replicate 32 (.int .u8 0) by kernel_rfl]
    exact (zero_of_info (n := 32) (by kernel_rfl)).1
  · kernel_rfl
set_option maxRecDepth 100000 in
set_option maxHeartbeats 4000000 in
theorem rright_any (w : World) (x : RecL) (ia : Option Addr) (ic : Nat) (hI : ItemsAt w ia x.items) (hk : ∀ y ∈ x.items, y.key.length ≤ 1000000) (hl : x.items.length ≤ 1000000) (hr : x.root.length = 32) :
    Calls Tryd.prog 13 #[.agg (recC x.kind x.seq (.slice ia x.items.length ic) x.area x.root)] w (Below0 w (.bool x.rightB)) := by
  obtain ⟨R, hR⟩ : ∃ R, R = x.rightB := ⟨_, rfl⟩; have HR := Lib.hid hR; have HI := Lib.hid (And.intro hI (And.intro hk hl)); obtain ⟨L, hL⟩ : ∃ L, L = x.items.length := ⟨_, rfl⟩; obtain ⟨RT, hRT⟩ : ∃ z, z = byA x.root := ⟨_, rfl⟩; obtain ⟨ZT, hZT⟩ : ∃ z, z = byA zeroH := ⟨_, rfl⟩; obtain ⟨C, hC⟩ : ∃ z, z = recC x.kind x.seq (.slice ia x.items.length ic) x.area x.root := ⟨_, rfl⟩; obtain ⟨w1, hw1⟩ : ∃ W, W = w.alloc (.cells C 25) := ⟨_, rfl⟩; obtain ⟨b, hb⟩ : ∃ b, b = w.heap.size := ⟨_, rfl⟩
  have hB1 : Below w.heap.size w w1 := by rw [hw1]; exact (Below.refl _ w).alloc (Nat.le_refl _) _
  have hrow : RowR w1 b x.kind x.seq (.slice ia x.items.length ic) x.area x.root := ⟨hr, by rw [hw1, hb, hC]; exact heap_alloc_new w _⟩
  obtain ⟨c0, c1, c2, c3, c4, -⟩ := hrow.d5
  have hq : ∀ w, (binOp .eql 23 (.agg RT) (.agg ZT)).run Tryd.prog w = .ok (.bool (decide (x.root = zeroH))) w := fun w => by rw [hRT, hZT]; exact run_eql_root w _ _ hr (by simp [zeroH])
  have hg : ∀ (op : BinOp) (o1 o2 : Operand) (w : World), (eqGuard op 23 o1 o2 (.agg RT) (.agg ZT)).run Tryd.prog w = .ok () w := fun op o1 o2 w => by rw [hRT, hZT]; exact run_guard_root w op o1 o2 _ _
  have hz := zero_root.1; have hzb := zero_root.2; rw [← hZT] at hz hzb
  have HC : Hid (Calls Tryd.prog 41 #[.slice ia L ic] w1 (Below0 w1 (.bool (x.items.all (·.rightB))))) := by
    rw [hL]; exact Lib.hid (ritems_any w1 ia ic x.items (hI.below hB1) hk hl)
  have HB := Lib.hid hB1; have hLI : Hid (L = x.items.length) := Lib.hid hL
  have hL6 : L ≤ 1000000 := by omega
  rw [← hR, ← hC]; rw [← hL] at c2; rw [← hRT] at c4; have hRZ : Hid (decide (x.root = zeroH) = decide (x.root = zeroH)) := Lib.hid rfl; obtain ⟨rz, hrz⟩ : ∃ r, r = decide (x.root = zeroH) := ⟨_, rfl⟩
  obtain ⟨al, hal⟩ : ∃ r, r = x.items.all (·.rightB) := ⟨_, rfl⟩
  have HF : Hid (R = (decide (1 ≤ x.seq ∧ x.seq ≤ 1099511627776) && if x.kind = 1 then decide (x.area = 0) && (rz && (decide (L ≤ 64) && al)) else decide (x.kind = 2) && (decide (0 ≤ x.area ∧ x.area ≤ 1) && decide (L = 0)))) := by
    rw [hR, hrz, hal, hL]; exact Lib.hid rfl
  rw [← hrz] at hq; rw [← hal] at HC; obtain ⟨k, hkk⟩ : ∃ k, k = x.kind := ⟨_, rfl⟩; obtain ⟨s, hss⟩ : ∃ k, k = x.seq := ⟨_, rfl⟩; obtain ⟨a, haa⟩ : ∃ k, k = x.area := ⟨_, rfl⟩; rw [← hkk, ← hss, ← haa] at HF; rw [← hkk] at c0; rw [← hss] at c1; rw [← haa] at c3; clear hI hk hl hr hrow hR hL hRT hZT hC hB1 hRZ hrz hal hkk hss haa
  go_enter Tryd.func13, Tryd.ntmps13
  go_upto_region 1 with (fail)
  rw [← hw1, ← hb]; clear hw1 hb
  by_cases q1 : s < 1
  · skip
    obtain rfl : R = false := by rw [HF.out]; simp [show ¬ (1 ≤ s ∧ s ≤ 1099511627776) by omega]
    go_wp2_with (fail); go_ret; exact ⟨rfl, HB.out⟩
  · skip
    by_cases q2 : 1099511627776 < s
    · skip
      obtain rfl : R = false := by rw [HF.out]; simp [show ¬ (1 ≤ s ∧ s ≤ 1099511627776) by omega]
      go_wp2_with (fail); go_ret; exact ⟨rfl, HB.out⟩
    · skip
      by_cases q3 : k = 1
      · skip
        subst q3
        by_cases q4 : a = 0
        · skip
          subst q4
          go_upto_region 5 with (fail)
          refine wp_region_lit ?_
          iterate 12 go_step
          iterate 2 go_step
          refine wpList_load_at rfl 23 _ rfl ⟨b, 4, none⟩ rfl (.agg RT) c4 ?_
          refine wpList_built_at rfl 23 _ rfl (by simpa using hzb) ?_
          by_cases q5 : rz = true
          · skip
            subst q5
            by_cases q6 : L ≤ 64
            · skip
              have h64 : (L : Int) ≤ 64 := by omega
              obtain rfl : R = al := by rw [HF.out]; simp [show 1 ≤ s ∧ s ≤ 1099511627776 by omega, q6]
              go_wp2_with (fail); refine HC.out.mono ?_; rintro e w2 ⟨rfl, hB2⟩; have H2 := Lib.hid (HB.out.trans (hB2.mono HB.out.size)); clear hB2; dsimp only; go_wp2_with (fail); go_ret
              exact ⟨by simp, H2.out⟩
            · skip
              have h64 : ¬ (L : Int) ≤ 64 := by omega
              obtain rfl : R = false := by rw [HF.out]; simp [q6]
              go_wp2_with (fail); go_ret; exact ⟨rfl, HB.out⟩
          · skip
            rw [Bool.not_eq_true] at q5; subst q5
            obtain rfl : R = false := by rw [HF.out]; simp
            go_wp2_with (fail); go_ret; exact ⟨rfl, HB.out⟩
        · skip
          have e4 : (a == 0) = false := by simpa using q4
          obtain rfl : R = false := by rw [HF.out]; simp [q4]
          go_wp2_with (fail); go_ret; exact ⟨rfl, HB.out⟩
      · skip
        have e3 : (k == 1) = false := by simpa using q3
        by_cases q7 : k = 2
        · skip
          subst q7
          by_cases q8 : 0 ≤ a
          · skip
            by_cases q9 : a ≤ 1
            · skip
              by_cases q10 : L = 0
              · skip
                subst q10
                obtain rfl : R = true := by rw [HF.out]; simp [show 1 ≤ s ∧ s ≤ 1099511627776 by omega, show 0 ≤ a ∧ a ≤ 1 from ⟨q8, q9⟩]
                go_wp2_with (fail); go_ret; exact ⟨rfl, HB.out⟩
              · skip
                have e10 : ((L : Int) == 0) = false := by simpa using (show ¬ (L : Int) = 0 by omega)
                obtain rfl : R = false := by rw [HF.out]; simp [q10]
                go_wp2_with (fail); go_ret; exact ⟨rfl, HB.out⟩
            · skip
              obtain rfl : R = false := by rw [HF.out]; simp [show ¬ (0 ≤ a ∧ a ≤ 1) by omega]
              go_wp2_with (fail); go_ret; exact ⟨rfl, HB.out⟩
          · skip
            obtain rfl : R = false := by rw [HF.out]; simp [show ¬ (0 ≤ a ∧ a ≤ 1) by omega]
            go_wp2_with (fail); go_ret; exact ⟨rfl, HB.out⟩
        · skip
          have e7 : (k == 2) = false := by simpa using q7
          obtain rfl : R = false := by rw [HF.out]; simp [q3, q7]
          go_wp2_with (fail); go_ret; exact ⟨rfl, HB.out⟩
end Go.Proofs.YtdmnhgbdeifpbaaDoor
