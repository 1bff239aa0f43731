/-
  Part 36 of 53 of what the proof leans on.
-/
import Derived.Test.YtjeeghafachebaaGreatG34
import Derived.Test.YtjeeghafachebaaGreatG27
import Derived.Lib.Overlaps
import Derived.ArgAppend
namespace Go.Proofs.YtjeeghafachebaaGreat
open Go Go.RowKit
theorem cellsLP_append (l m : List PaneV) : cellsLP (l ++ m) = cellsLP l ++ cellsLP m := by simp [cellsLP]
theorem cellsLP_take (l : List PaneV) (i : Nat) (h : i ≤ l.length) : cellsLP (l.take i) = (cellsLP l).take (i * 8) := by
  have e : cellsLP l = cellsLP (l.take i) ++ cellsLP (l.drop i) := by rw [← cellsLP_append, List.take_append_drop]
  have hl : (cellsLP (l.take i)).length = i * 8 := by rw [cellsLP_length, List.length_take, Nat.min_eq_left h]
  rw [e, List.take_left' hl]
theorem cellsLP_drop (l : List PaneV) (i : Nat) (h : i ≤ l.length) : cellsLP (l.drop i) = (cellsLP l).drop (i * 8) := by
  have e : cellsLP l = cellsLP (l.take i) ++ cellsLP (l.drop i) := by rw [← cellsLP_append, List.take_append_drop]
  have hl : (cellsLP (l.take i)).length = i * 8 := by rw [cellsLP_length, List.length_take, Nat.min_eq_left h]
  rw [e, List.drop_left' hl]
theorem append_fitsP (w : World) {base g n c : Nat} {l : List PaneV} (hown : OwnP w base (.slice (some ⟨g, 0, none⟩) n c) l) (hn : n = l.length) {y : PaneV} {q : Nat} (hu : ∀ j z, y.cells[j]? = some z → w.cell? ⟨q, j, none⟩ = some z) (hroom : n + 1 ≤ c) (ty : TypeId) :
    ∃ w', (Builtin.append_ #[27, 27] ty #[.slice (some ⟨g, 0, none⟩) n c, .slice (some ⟨q, 0, none⟩) 1 1]).run Tryz.prog w = .ok (.slice (some ⟨g, 0, none⟩) (n + 1) c) w' ∧
      OwnP w' base (.slice (some ⟨g, 0, none⟩) (n + 1) c) (l ++ [y]) ∧ w.grownBy w' (some g) := by
  subst hn; obtain ⟨i, hi, hz, hs, hby⟩ := info_parts pane_parts; obtain ⟨w', h1, h2, h3⟩ := run_append_fits (P := Tryz.prog) w base 27 ty 55 i 8 Tryz.underlying27 hi hs g l.length c (cellsLP l) hown ⟨q, 0, none⟩ 1 1 y.cells.toList rfl
    (fun j u hj => by rw [addr_add, Nat.zero_add]; exact hu j u (by simpa using hj)) (fun z hz => Array.all_eq_true'.1 (pane_one y) z (by simpa using hz)) hroom
  refine ⟨w', h1, ?_, h3⟩; unfold OwnP; rw [cellsLP_snoc, List.length_append]; exact h2
theorem wpList_fitsP {ops : Array Oper} {rest : List Oper} {o : Oper} {a : Act} {Q : Exit → Act → World → Prop} {w : World} (hgd : o.guard = none) (s x : Operand)
    (ho : o.op = .call { callee := .builtin .append, args := #[s, x], argTypes := #[27, 27] }) {base g n c : Nat} {l : List PaneV} (hs : a.eval s = .slice (some ⟨g, 0, none⟩) n c)
    (hown : OwnP w base (.slice (some ⟨g, 0, none⟩) n c) l) (hn : n = l.length) (y : PaneV) (q : Nat) (hx : a.eval x = .slice (some ⟨q, 0, none⟩) 1 1) (hu : ∀ j z, y.cells[j]? = some z → w.cell? ⟨q, j, none⟩ = some z) (hroom : n + 1 ≤ c)
    (h : ∀ w', OwnP w' base (.slice (some ⟨g, 0, none⟩) (n + 1) c) (l ++ [y]) → w.grownBy w' (some g) → wpList Tryz.prog ops Q rest (a.put o.dst (.slice (some ⟨g, 0, none⟩) (n + 1) c)) w') : wpList Tryz.prog ops Q (o :: rest) a w := by
  refine wpList_plain hgd fun K hK => ?_; obtain ⟨w', hr, h2, h3⟩ := append_fitsP w hown hn hu hroom o.type; unfold Oper.wp execOp; simp only [ho, resolve, invoke, builtin, Sem.run_bind, Sem.run_pure, Result.andThen_ok, List.map_toArray, List.map_cons, List.map_nil, hs, hx, hr]; exact hK _ _ (h w' h2 h3)
theorem run_copyP (w : World) (ty : TypeId) (b o dLen dCap : Nat) (a : Addr) (sLen sCap k : Nat) (cs : List Value) (cur : Array Value) (hg : w.heap[b]? = some (.cells cur 55 (0, 0)))
    (hk : k = Nat.min sLen dLen) (hn : cs.length = k * 8) (hsrc : ∀ j v, cs[j]? = some v → w.cell? (a.add j) = some v) (h1 : ∀ v ∈ cs, v.oneCell' = true) (hfit : o + cs.length ≤ cur.size) :
    (Builtin.copy_ #[27, 27] ty #[.slice (some ⟨b, o, none⟩) dLen dCap, .slice (some a) sLen sCap]).run Tryz.prog w = .ok (goInt k) (w.setRow b (cur.toList.take o ++ cs ++ cur.toList.drop (o + cs.length)).toArray) := by
  have hl := run_loadCells_list (P := Tryz.prog) w a cs hsrc
  have hst := run_storeCells_at Tryz.prog b o 55 cs 0 cur w hg (by simpa using hfit) h1
  have hs : ∀ w, (sizeOf 55).run Tryz.prog w = .ok 8 w := Tryz.sizeOf55; rw [hn] at hl; simp [Builtin.copy_, run_underlying Tryz.underlying27, Builtin.lenOf, Builtin.firstCells, hs, ← hk, hl]; simp only [Nat.add_zero] at hst; rw [hst]; simp only [Result.andThen_ok, List.append_assoc]
theorem wp_copyP {o : Oper} {a : Act} {w : World} {K : Act → World → Prop} {Q : Exit → Act → World → Prop} (d s : Operand) (ho : o.op = .call { callee := .builtin .copy, args := #[d, s], argTypes := #[27, 27] })
    (b off dLen dCap : Nat) (x : Addr) (sLen sCap k : Nat) (cs : List Value) (cur : Array Value) (hd : a.eval d = .slice (some ⟨b, off, none⟩) dLen dCap) (hs : a.eval s = .slice (some x) sLen sCap) (hg : w.heap[b]? = some (.cells cur 55 (0, 0)))
    (hk : k = Nat.min sLen dLen) (hn : cs.length = k * 8) (hsrc : ∀ j v, cs[j]? = some v → w.cell? (x.add j) = some v) (h1 : ∀ v ∈ cs, v.oneCell' = true) (hfit : off + cs.length ≤ cur.size)
    (h : K (a.put o.dst (goInt k)) (w.setRow b (cur.toList.take off ++ cs ++ cur.toList.drop (off + cs.length)).toArray)) : o.wp Tryz.prog a w K Q := by
  unfold Oper.wp execOp; simp only [ho, resolve, invoke, builtin, Sem.run_bind, Sem.run_pure, Result.andThen_ok, List.map_toArray, List.map_cons, List.map_nil, hd, hs, run_copyP w o.type b off dLen dCap x sLen sCap k cs cur hg hk hn hsrc h1 hfit]; exact h
theorem wpList_copyP {ops : Array Oper} {rest : List Oper} {o : Oper} {a : Act} {w : World} {Q : Exit → Act → World → Prop} (hgd : o.guard = none) (d s : Operand) (ho : o.op = .call { callee := .builtin .copy, args := #[d, s], argTypes := #[27, 27] })
    (b off dLen dCap : Nat) (x : Addr) (sLen sCap k : Nat) (cs : List Value) (cur : Array Value) (hd : a.eval d = .slice (some ⟨b, off, none⟩) dLen dCap) (hs : a.eval s = .slice (some x) sLen sCap) (hg : w.heap[b]? = some (.cells cur 55 (0, 0)))
    (hk : k = Nat.min sLen dLen) (hn : cs.length = k * 8) (hsrc : ∀ j v, cs[j]? = some v → w.cell? (x.add j) = some v) (h1 : ∀ v ∈ cs, v.oneCell' = true) (hfit : off + cs.length ≤ cur.size)
    (h : wpList Tryz.prog ops Q rest (a.put o.dst (goInt k)) (w.setRow b (cur.toList.take off ++ cs ++ cur.toList.drop (off + cs.length)).toArray)) : wpList Tryz.prog ops Q (o :: rest) a w :=
  wpList_plain hgd fun _ hK => wp_copyP d s ho b off dLen dCap x sLen sCap k cs cur hd hs hg hk hn hsrc h1 hfit (hK _ _ h)
theorem run_sliceP3_l (w : World) (g o n c i : Nat) (h : i ≤ n) (hc : i < c) :
    (Instr.slice 27 (.slice (some ⟨g, o, none⟩) n c) (some (.int .i64 (i : Int))) none none).run Tryz.prog w = .ok (.slice (some ⟨g, o + i * 8, none⟩) (n - i) (c - i)) w := by
  have hz : ∀ w, (sizeOf 55).run Tryz.prog w = .ok 8 w := Tryz.sizeOf55
  have e : ¬ c = i := by omega
  simp [Instr.slice, run_underlying Tryz.underlying27, Instr.sliceBounds, run_sliceBound, hz, h, addr_add, e]
def InsGP (g q : Nat) (y : PaneV) (w : World) (cur cur1 : Array Value) (k : Nat) (w' : World) : Prop :=
  cond (Nat.beq k 0) (w'.heap[g]? = some (.cells cur 55 (0, 0))) (w'.heap[g]? = some (.cells cur1 55 (0, 0))) ∧ RowP w' q y ∧ w.grownBy w' (some g)
set_option maxRecDepth 100000 in
set_option maxHeartbeats 8000000 in
theorem insertP_any (w : World) (base g c i q : Nat) (l : List PaneV) (y : PaneV) (hO : OwnP w base (.slice (some ⟨g, 0, none⟩) l.length c) l) (hq : RowP w q y) (hqg : q ≠ g) (hi : i ≤ l.length) (hc : l.length + 1 ≤ c) (hn : l.length ≤ 1000000) :
    Calls Tryz.prog 101 #[.slice (some ⟨g, 0, none⟩) l.length c, .int .i64 (i : Int), .slice (some ⟨q, 0, none⟩) 1 1] w (fun e w' => e = .returned (.slice (some ⟨g, 0, none⟩) (l.length + 1) c) ∧ OwnP w' base (.slice (some ⟨g, 0, none⟩) (l.length + 1) c) (l.take i ++ [y] ++ l.drop i) ∧ w.grownBy w' (some g)) := by
  obtain ⟨n, hN⟩ : ∃ n, n = l.length := ⟨_, rfl⟩; obtain ⟨P, hP⟩ : ∃ P : Ending → World → Prop, P = fun e w' => e = .returned (.slice (some ⟨g, 0, none⟩) (n + 1) c) ∧ OwnP w' base (.slice (some ⟨g, 0, none⟩) (n + 1) c) (l.take i ++ [y] ++ l.drop i) ∧ w.grownBy w' (some g) := ⟨_, rfl⟩; rw [← hN] at hO hi hc hn ⊢; rw [← hP]
  have HYes : Hid (∀ w', OwnP w' base (.slice (some ⟨g, 0, none⟩) (n + 1) c) (l.take i ++ [y] ++ l.drop i) → w.grownBy w' (some g) → P (.returned (.slice (some ⟨g, 0, none⟩) (n + 1) c)) w') := Lib.hid (fun w' h1 h2 => by rw [hP]; exact ⟨rfl, h1, h2⟩)
  have hsl0 : ∀ w', (Instr.slice 27 (.slice (some ⟨g, 0, none⟩) n c) (some (.int .i64 (i : Int))) none none).run Tryz.prog w' = .ok (.slice (some ⟨g, i * 8, none⟩) (n - i) (c - i)) w' := fun w' => by
    have h := run_sliceP3_l w' g 0 n c i hi (by omega)
    rwa [Nat.zero_add] at h
  have HO := Lib.hid (And.intro hO (And.intro hN hq)); clear hP hN hO hq; have hm1 : ((1 : Int) == 0) = false := rfl
  by_cases hin : i = n
  · subst hin
    have e1 : ((i : Int) == (i : Int)) = true := by simp
    have HU : Hid (∀ j z, y.cells[j]? = some z → w.cell? ⟨q, j, none⟩ = some z) := Lib.hid (fun j z hz => HO.out.2.2.cell j hz)
    go_enter Tryz.func101, Tryz.ntmps101
    go_upto_region 7 with (fail)
    refine wp_region_lit ?_
    iterate 6 go_step
    refine wpList_fitsP rfl (.tmp 23) (.tmp 24) rfl rfl HO.out.1 HO.out.2.1 y q rfl HU.out hc ?_; intro w' k1 k2
    have HZ : Hid (P (.returned (.slice (some ⟨g, 0, none⟩) (i + 1) c)) w') := Lib.hid (HYes.out w' (by rw [HO.out.2.1, List.take_length, List.drop_length, List.append_nil, ← HO.out.2.1]; exact k1) k2)
    clear k1 k2 hsl0; go_wp2_with (fail); exact HZ.out
  · have hlt : i < n := by omega
    have e1 : ((i : Int) == (n : Int)) = false := by simpa using fun h : (i : Int) = (n : Int) => hin (by omega)
    obtain ⟨cur, hcur, hsz, htk, hcm, hbg⟩ : ∃ cur : Array Value, w.heap[g]? = some (.cells cur 55 (0, 0)) ∧ cur.size = c * 8 ∧ cur.toList.take (n * 8) = cellsLP l ∧ c ≤ maxLen ∧ base ≤ g := by
      have h := HO.out.1
      rcases h.2 with ⟨h', _⟩ | ⟨g', cap', cur, h', hb, hg, _, hcm, hcs, htake⟩
      · simp at h'
      · simp only [Value.slice.injEq, Option.some.injEq, Addr.mk.injEq, and_true] at h'; obtain ⟨rfl, _, rfl⟩ := h'; rw [← HO.out.2.1] at htake; exact ⟨cur, hg, hcs, htake, hcm, hb⟩
    have hL : (cellsLP l).length = n * 8 := by rw [cellsLP_length, HO.out.2.1]
    obtain ⟨cs, hcs⟩ : ∃ cs, cs = (cellsLP l).drop (i * 8) := ⟨_, rfl⟩
    have hcl : cs.length = (n - i) * 8 := by rw [hcs, List.length_drop, hL]; omega
    obtain ⟨cur1, hc1⟩ : ∃ x, x = (cur.toList.take ((i + 1) * 8) ++ cs ++ cur.toList.drop ((i + 1) * 8 + cs.length)).toArray := ⟨_, rfl⟩
    have hs1 : cur1.size = c * 8 := by
      rw [hc1]; simp only [List.size_toArray, List.length_append, List.length_take, List.length_drop, Array.length_toList]; omega
    have HC := Lib.hid (And.intro hcur (And.intro hsz (And.intro htk (And.intro hcm (And.intro hbg (And.intro hcs (And.intro hcl (And.intro hc1 hs1))))))))
    have hov : ∀ lb cb, (callFunc 102 #[.slice (some ⟨q, 0, none⟩) 1 1, .slice (some ⟨g, (i + 1) * 8, none⟩) lb cb]).run Tryz.prog w = .ok (.value (.bool false)) w := fun lb cb => by
      rw [run_callFunc_extern Tryz.func102 (by kernel_rfl) (by kernel_rfl) (by kernel_rfl) (e := Extern.SlicesOverlaps.overlaps #[27, 27] #[4]) (by kernel_rfl),
        Lib.run_overlaps_apart w 27 4 55 Tryz.underlying27 8 Tryz.sizeOf55 ⟨q, 0, none⟩ ⟨g, (i + 1) * 8, none⟩ 1 1 lb cb hqg 55 55 8 cur.size
          (by have h := HO.out.2.2; unfold RowP at h; simp [World.shape?, h, PaneV.cells]) (by simp [World.shape?, hcur]) (by omega) (HO.out.2.2.fro 0) (HO.out.2.2.fro 8)]
      rfl
    have hslh : ∀ w', (Instr.slice 27 (.slice (some ⟨g, 0, none⟩) n c) none (some (.int .i64 ((n : Int) + 1))) none).run Tryz.prog w' = .ok (.slice (some ⟨g, 0, none⟩) (n + 1) c) w' := fun w' => by
      have h := run_sliceP_h w' (some ⟨g, 0, none⟩) n c (n + 1) (by omega)
      rwa [show ((n + 1 : Nat) : Int) = (n : Int) + 1 by omega] at h
    have hslm : ∀ w', (Instr.slice 27 (.slice (some ⟨g, 0, none⟩) (n + 1) c) (some (.int .i64 ((i : Int) + 1))) none none).run Tryz.prog w' = .ok (.slice (some ⟨g, (i + 1) * 8, none⟩) (n - i) (c - (i + 1))) w' := fun w' => by
      have h := run_sliceP3_l w' g 0 (n + 1) c (i + 1) (by omega) (by omega)
      rwa [show ((i + 1 : Nat) : Int) = (i : Int) + 1 by omega, Nat.zero_add, show n + 1 - (i + 1) = n - i by omega] at h
    have hsli : ∀ w', (Instr.slice 27 (.slice (some ⟨g, 0, none⟩) (n + 1) c) (some (.int .i64 (i : Int))) none none).run Tryz.prog w' = .ok (.slice (some ⟨g, i * 8, none⟩) (n + 1 - i) (c - i)) w' := fun w' => by
      have h := run_sliceP3_l w' g 0 (n + 1) c i (by omega) (by omega)
      rwa [Nat.zero_add] at h
    have hgt : ¬ ((c : Int) < (n : Int) + 1) := by omega
    have HS := Lib.hid (And.intro hslm hsli); have HG0 : Hid (InsGP g q y w cur cur1 0 w.drew) := Lib.hid ⟨hcur, HO.out.2.2, ⟨rfl, rfl, rfl, Nat.le_refl _, fun _ _ _ => rfl⟩⟩; have HLt : Hid (i < n ∧ n + 1 ≤ c ∧ n ≤ 1000000) := Lib.hid ⟨hlt, hc, hn⟩; clear hcur hsz htk hcm hbg hcs hcl hc1 hs1 hL hin
    go_enter Tryz.func101, Tryz.ntmps101
    go_wp2_with (simp only [hov])
    refine wp_region_skip_frame (fun i => ([] : List Nat).contains i) (by kernel_rfl) [none, none, none, none, none, none, none, none, some 0] [8] (V4 ((Value.slice (some ⟨g, 0, none⟩) (n + 1) c) :: (Value.int .i64 (i : Int)) :: (Value.int .i64 (1 : Int)) :: (Value.int .i64 ((i : Int) + 1)) :: (Value.slice (some ⟨g, (i + 1) * 8, none⟩) (n - i) (c - (i + 1))) :: (Value.slice (some ⟨g, 0, none⟩) (n + 1) c) :: (Value.int .i64 (i : Int)) :: (Value.slice (some ⟨g, i * 8, none⟩) (n + 1 - i) (c - i)) :: goInt ((n - i : Nat) : Int) :: ([] : List Value)) 99 (fun _ _ _ => True) 98 (fun _ _ _ => True) 97 (fun _ _ _ => True) 96 (fun _ _ _ => True)) (InsGP g q y w cur cur1) (fun w w' => Below w.heap.size w w') (V4_le _ (fun _ _ _ _ _ h => h) (fun _ _ _ _ _ h => h) (fun _ _ _ _ _ h => h) (fun _ _ _ _ _ h => h)) (by kernel_rfl) (by kernel_rfl) (by kernel_rfl) HG0.out (fun _ => ⟨rfl, rfl, rfl, rfl, rfl, rfl, rfl, rfl, rfl, trivial⟩) (fun _ h => by simp at h) ?_ ?_
    · refine ⟨?_, ?_, ?_, ?_, ?_, ?_, ?_, ?_, ?_, trivial⟩
      · intro _ _ a w' hG hout hpre K hK; have q0 := ev_of ((hout 0 rfl).trans (show _ = .slice (some ⟨g, 0, none⟩) (n + 1) c from rfl)); clear hout hpre; go_step; exact hK _ _ rfl hG (Below.refl _ _)
      · intro _ _ a w' hG hout hpre K hK; have q1 := ev_of ((hout 1 rfl).trans (show _ = .int .i64 (i : Int) from rfl)); clear hout hpre; go_step; exact hK _ _ rfl hG (Below.refl _ _)
      · intro _ _ a w' hG hout hpre K hK; have q7 := ev_of ((hout 7 rfl).trans (show _ = .int .i64 (1 : Int) from rfl)); clear hout hpre; go_step; exact hK _ _ rfl hG (Below.refl _ _)
      · intro _ _ a w' hG hout hpre K hK; obtain ⟨p0, p1, _⟩ := hpre; have q70 := ev_of (show a.eval (.tmp 70) = .int .i64 (i : Int) from p0); have q71 := ev_of (show a.eval (.tmp 71) = .int .i64 (1 : Int) from p1); have hlt := HLt.out; clear hout p0 p1; go_step; exact hK _ _ rfl hG (Below.refl _ _)
      · intro _ _ a w' hG hout hpre K hK; obtain ⟨p0, p1, _⟩ := hpre; have q69 := ev_of (show a.eval (.tmp 69) = .slice (some ⟨g, 0, none⟩) (n + 1) c from p0); have q72 := ev_of (show a.eval (.tmp 72) = .int .i64 ((i : Int) + 1) from p1); have hsl := HS.out.1; clear hout p0 p1; go_step; exact hK _ _ rfl hG (Below.refl _ _)
      · intro _ _ a w' hG hout hpre K hK; have q0 := ev_of ((hout 0 rfl).trans (show _ = .slice (some ⟨g, 0, none⟩) (n + 1) c from rfl)); clear hout hpre; go_step; exact hK _ _ rfl hG (Below.refl _ _)
      · intro _ _ a w' hG hout hpre K hK; have q1 := ev_of ((hout 1 rfl).trans (show _ = .int .i64 (i : Int) from rfl)); clear hout hpre; go_step; exact hK _ _ rfl hG (Below.refl _ _)
      · intro _ _ a w' hG hout hpre K hK; obtain ⟨p0, p1, _⟩ := hpre; have q74 := ev_of (show a.eval (.tmp 74) = .slice (some ⟨g, 0, none⟩) (n + 1) c from p0); have q75 := ev_of (show a.eval (.tmp 75) = .int .i64 (i : Int) from p1); have hsl := HS.out.2; clear hout p0 p1; go_step; exact hK _ _ rfl hG (Below.refl _ _)
      · intro _ a w' hG hout hpre K hK; obtain ⟨p0, p1, _⟩ := hpre; have q73 := (show a.eval (.tmp 73) = .slice (some ⟨g, (i + 1) * 8, none⟩) (n - i) (c - (i + 1)) from p0); have q76 := (show a.eval (.tmp 76) = .slice (some ⟨g, i * 8, none⟩) (n + 1 - i) (c - i) from p1); clear hout p0 p1; obtain ⟨hcur, hq, hgr⟩ := (show (w'.heap[g]? = some (.cells cur 55 (0, 0)) ∧ RowP w' q y ∧ w.grownBy w' (some g)) from hG); obtain ⟨_, hsz, htk, _, _, hcs, hcl, hc1, _⟩ := HC.out; have hlt := HLt.out
        refine wp_copyP (.tmp 73) (.tmp 76) rfl g ((i + 1) * 8) (n - i) (c - (i + 1)) ⟨g, i * 8, none⟩ (n + 1 - i) (c - i) (n - i) cs cur q73 q76 hcur (Nat.min_eq_right (by omega)).symm hcl (fun j v hj => ?_) (fun v hv => ?_) (by omega) ?_
        · rw [addr_add, cell_of_row w' g _ cur _ _ hcur]; rw [hcs, List.getElem?_drop, ← htk, List.getElem?_take] at hj
          split at hj
          · simpa using hj
          · cases hj
        · rw [hcs] at hv; exact cellsLP_one l v (List.mem_of_mem_drop hv)
        · rw [← hc1]; have hg2 := grown_setRow w' g cur1
          exact hK _ _ rfl ⟨setRow_heap w' g _ _ _ _ hcur, hq.grown hg2 (by simp; exact hqg), ⟨hg2.os.trans hgr.os, hg2.tape.trans hgr.tape, hg2.output.trans hgr.output, Nat.le_trans hgr.size hg2.size, fun j hj hne => (hg2.block j (Nat.lt_of_lt_of_le hj hgr.size) hne).trans (hgr.block j hj hne)⟩⟩ (V4_keep (.inr fun _ h => h) (.inr fun _ h => h) (.inr fun _ h => h) (.inr fun _ h => h))
    · intro vs w2 hG hlen hV
      match vs, hlen, hV with
      | [v0, v1, v2, v3, v4, v5, v6, v7, v8], _, hV =>
        clear hV; simp only [putsL, List.tail_cons, List.headD_cons]; simp only [Act.put, List.setIfInBounds_toArray, List.set_cons_succ, List.set_cons_zero]; have H2 : Hid (w2.heap[g]? = some (.cells cur1 55 (0, 0)) ∧ RowP w2 q y ∧ w.grownBy w2 (some g)) := Lib.hid hG; clear hG hslm hslh hov
        go_upto_region 16 with (fail)
        refine wp_region_lit ?_
        iterate 12 go_step
        refine wpList_copyP rfl (.tmp 80) (.tmp 81) rfl g (i * 8) (n + 1 - i) (c - i) ⟨q, 0, none⟩ 1 1 1 y.cells.toList cur1 rfl rfl H2.out.1 (Nat.min_eq_left (by have := HLt.out; omega)).symm rfl (fun j v hj => by rw [addr_add, Nat.zero_add]; exact H2.out.2.1.cell j (by simpa using hj)) (fun v hv => Array.all_eq_true'.1 (pane_one y) v (by simpa using hv)) (by have h3 : y.cells.toList.length = 8 := rfl; have h := HC.out.2.2.2.2.2.2.2.2; omega) ?_
        obtain ⟨wz, hwz⟩ : ∃ W, W = w2.setRow g (cur1.toList.take (i * 8) ++ y.cells.toList ++ cur1.toList.drop (i * 8 + y.cells.toList.length)).toArray := ⟨_, rfl⟩
        have HZ : Hid (P (.returned (.slice (some ⟨g, 0, none⟩) (n + 1) c)) wz) := by
          obtain ⟨hcur, hsz, htk, hcm, hbg, hcs, hcl, hc1, hs1⟩ := HC.out; have hlt := HLt.out; have hN := HO.out.2.1
          have hL : (cellsLP l).length = n * 8 := by rw [cellsLP_length, hN]
          have h3 : y.cells.toList.length = 8 := rfl; have hg2 := grown_setRow w2 g (cur1.toList.take (i * 8) ++ y.cells.toList ++ cur1.toList.drop (i * 8 + y.cells.toList.length)).toArray; rw [← hwz] at hg2; have hgr := H2.out.2.2; refine Lib.hid (HYes.out wz ?_ ⟨hg2.os.trans hgr.os, hg2.tape.trans hgr.tape, hg2.output.trans hgr.output, Nat.le_trans hgr.size hg2.size, fun j hj hne => (hg2.block j (Nat.lt_of_lt_of_le hj hgr.size) hne).trans (hgr.block j hj hne)⟩)
          have hlen : (l.take i ++ [y] ++ l.drop i).length = n + 1 := by simp; omega
          unfold OwnP; rw [hlen]
          refine ⟨by rw [cellsLP_length, hlen], .inr ⟨g, c, _, rfl, hbg, by rw [hwz]; exact setRow_heap w2 g _ _ _ _ H2.out.1, hlt.2.1, hcm, ?_, ?_⟩⟩
          · simp only [List.size_toArray, List.length_append, List.length_take, List.length_drop, Array.length_toList]; have h4 : y.cells.size = 8 := rfl; omega
          · have e1 : cellsLP (l.take i ++ [y] ++ l.drop i) = (cellsLP l).take (i * 8) ++ y.cells.toList ++ cs := by
              rw [cellsLP_append, cellsLP_append, cellsLP_take l i (by omega), cellsLP_drop l i (by omega), hcs]
              simp [cellsLP]
            have e2 : cur1.toList.take (i * 8) = (cellsLP l).take (i * 8) := by
              rw [hc1, List.append_assoc, List.take_append_of_le_length (by rw [List.length_take, Array.length_toList]; omega), List.take_take, ← htk, List.take_take]
              congr 1
              omega
            have e3 : cur1.toList.drop (i * 8 + y.cells.toList.length) = cs ++ cur.toList.drop ((i + 1) * 8 + cs.length) := by
              rw [hc1, List.append_assoc, h3]
              exact List.drop_left' (by rw [List.length_take, Array.length_toList]; omega)
            rw [e1, e2, e3]
            exact take_mid _ (by rw [List.length_take, hL, h3, hcl]; omega)
        rw [← hwz]; clear hwz hsli hsl0; go_wp2_with (fail); exact HZ.out
end Go.Proofs.YtjeeghafachebaaGreat
namespace Go.Proofs.YtjeeghafachebaaGreat
open Go Go.RowKit
theorem zeroCells_panes (m : Nat) : (Builtin.zeroCells (Value.agg #[.string ⟨#[]⟩, .int .i64 0, .int .i64 0, .int .i64 0, .int .i64 0, .slice none 0 0, .complex .f64 0 0, .int .i64 0]).cells m).toList = cellsLP (List.replicate m zeroPV) := by
  have hz : zeroPV.cells = #[.string ⟨#[]⟩, .int .i64 0, .int .i64 0, .int .i64 0, .int .i64 0, .slice none 0 0, .complex .f64 0 0, .int .i64 0] := rfl
  apply List.ext_getElem?
  intro j
  show (Builtin.zeroCells #[.string ⟨#[]⟩, .int .i64 0, .int .i64 0, .int .i64 0, .int .i64 0, .slice none 0 0, .complex .f64 0 0, .int .i64 0] m).toList[j]? = _
  rw [← hz]; have hs : zeroPV.cells.size = 8 := rfl
  by_cases hj : j < m * 8
  · have h8 : j % 8 < 8 := Nat.mod_lt _ (by decide)
    have hx : (List.replicate m zeroPV)[j / 8]? = some zeroPV := by rw [List.getElem?_replicate, if_pos (by omega)]
    obtain ⟨v, hv⟩ : ∃ v, zeroPV.cells[j % 8]? = some v := ⟨_, Array.getElem?_eq_getElem (by rw [hs]; exact h8)⟩
    have h1 := cellsLP_at _ (j / 8) _ (j % 8) v hx hv
    rw [show j / 8 * 8 + j % 8 = j by omega] at h1
    rw [h1, Array.getElem?_toList]; unfold Builtin.zeroCells
    rw [hs, Array.getElem?_map, Array.getElem?_eq_getElem (by simpa using hj)]
    simp only [Array.getElem_range, Option.map_some]; rw [getElem!_def, hv]
  · have h1 : (cellsLP (List.replicate m zeroPV))[j]? = none := by
      rw [List.getElem?_eq_none_iff, cellsLP_length, List.length_replicate]; omega
    rw [h1, List.getElem?_eq_none_iff, Array.length_toList, size_zeroCells, hs]; omega
theorem run_append_zerosP (w : World) {g n c m : Nat} {olds : List PaneV} (ty : TypeId) (hlo : olds.length = n) (hc : ∀ j u, (cellsLP olds)[j]? = some u → w.cell? ⟨g, j, none⟩ = some u) (hg : c < n + m) (hm : 0 < m) (hsz : n + m ≤ 1000000) :
    ∃ cap w', (Builtin.append_ #[27, 3] ty #[.slice (some ⟨g, 0, none⟩) n c, .int .i64 (m : Int)]).run Tryz.prog w = .ok (.slice (some ⟨w.heap.size, 0, none⟩) (n + m) cap) w' ∧ OwnP w' w.heap.size (.slice (some ⟨w.heap.size, 0, none⟩) (n + m) cap) (olds ++ List.replicate m zeroPV) ∧ w.grownBy w' none := by
  obtain ⟨i, hi, hz, hs, hby⟩ := info_parts pane_parts
  have hn : ¬ (n + m ≤ c) := by omega
  have h63' : ¬ (9223372036854775807 < ((n : Int) + (m : Int))) := by omega
  have hfit : Builtin.nextslicecap (n + m) c * i.bytes ≤ 281474976710656 := growslice_fits hg (by rw [hby]; omega)
  have h48' : ¬ (281474976710656 < Builtin.nextslicecap (n + m) c * i.bytes) := by omega
  have hwr : IntKind.i64.wrap (m : Int) = (m : Int) := by
    simp [IntKind.wrap, IntKind.bits, IntKind.signed]; omega
  have hm0 : ¬ ((m : Int) < 0) := by omega
  have hmb : ¬ ((281474976710656 : Int) < (m : Int) * (i.bytes : Int)) := by rw [hby]; omega
  have hms : ¬ (m * i.size = 0) := by rw [hs]; omega
  have hfo := run_firstCells_some (P := Tryz.prog) w.drew i.size n ⟨g, 0, none⟩ n c (cellsLP olds) (by rw [cellsLP_length, hlo, hs]) (by simpa [addr_add] using hc)
  have hr : (Builtin.append_ #[27, 3] ty #[.slice (some ⟨g, 0, none⟩) n c, .int .i64 (m : Int)]).run Tryz.prog w = .ok (.slice (some ⟨w.heap.size, 0, none⟩) (n + m) (grownCap w (n + m) c 55))
        (w.drew.alloc (.cells ((cellsLP olds).toArray ++ Builtin.zeroCells (Value.agg #[.string ⟨#[]⟩, .int .i64 0, .int .i64 0, .int .i64 0, .int .i64 0, .slice none 0 0, .complex .f64 0 0, .int .i64 0]).cells m ++ Builtin.zeroCells (Value.agg #[.string ⟨#[]⟩, .int .i64 0, .int .i64 0, .int .i64 0, .int .i64 0, .slice none 0 0, .complex .f64 0 0, .int .i64 0]).cells (grownCap w (n + m) c 55 - (n + m))) 55)) := by
    simp [Builtin.append_, run_underlying Tryz.underlying27, run_underlying Tryz.underlying3, sizeOf, typeInfo, zeroValue, hi, hz, Builtin.lenOf, asInt, asIntOf, hwr, hm0, hmb, hms, hn, h63', h48', Question.forced, hfo, newRow, grownCap]
  have hge := grownCap_ge w (n + m) c 55
  have hcm : grownCap w (n + m) c 55 ≤ maxLen := grownCap_le_maxLen w (n + m) c 55 (by unfold maxLen; omega)
  have hlen : (olds ++ List.replicate m zeroPV).length = n + m := by rw [List.length_append, List.length_replicate, hlo]
  refine ⟨_, _, hr, ?_, ⟨rfl, rfl, rfl, by simp, fun k hk _ => heap_alloc_old w.drew _ hk⟩⟩
  unfold OwnP; rw [hlen]
  refine ⟨by rw [cellsLP_length, hlen], .inr ⟨w.heap.size, _, _, rfl, Nat.le_refl _, heap_alloc_new w.drew _, hge, hcm, ?_, ?_⟩⟩
  · simp only [Array.size_append, List.size_toArray, size_zeroCells, cellsLP_length, hlo]
    show n * 8 + m * 8 + (grownCap w (n + m) c 55 - (n + m)) * 8 = _
    omega
  · simp only [Array.toList_append, zeroCells_panes, List.append_assoc]; rw [← List.append_assoc, ← cellsLP_append]
    exact List.take_left' (by rw [cellsLP_length, hlen])
end Go.Proofs.YtjeeghafachebaaGreat
namespace Go.Proofs.YtjeeghafachebaaGreat
open Go Go.RowKit
theorem OwnP.take {w : World} {base g n c i : Nat} {l : List PaneV} (h : OwnP w base (.slice (some ⟨g, 0, none⟩) n c) l) (hn : n = l.length) (hi : i ≤ n) : OwnP w base (.slice (some ⟨g, 0, none⟩) i c) (l.take i) := by
  subst hn
  rcases h.2 with ⟨h', _⟩ | ⟨g', cap', cur, h', hb, hg, hnc, hcm, hcs, htake⟩
  · simp at h'
  · simp only [Value.slice.injEq, Option.some.injEq, Addr.mk.injEq, and_true, true_and] at h'; obtain ⟨rfl, rfl⟩ := h'
    have hlen : (l.take i).length = i := by rw [List.length_take]; omega
    unfold OwnP; rw [hlen]
    refine ⟨by rw [cellsLP_length, hlen], .inr ⟨g, c, cur, rfl, hb, hg, by omega, hcm, hcs, ?_⟩⟩
    rw [cellsLP_take l i hi, ← htake, List.take_take]
    congr 1
    omega
theorem OwnP.row {w : World} {base g n c : Nat} {l : List PaneV} (h : OwnP w base (.slice (some ⟨g, 0, none⟩) n c) l) (hn : n = l.length) : ∃ cur : Array Value, w.heap[g]? = some (.cells cur 55 (0, 0)) ∧ cur.size = c * 8 ∧ cur.toList.take (n * 8) = cellsLP l ∧ c ≤ maxLen ∧ base ≤ g ∧ n ≤ c := by
  subst hn
  rcases h.2 with ⟨h', _⟩ | ⟨g', cap', cur, h', hb, hg, hnc, hcm, hcs, htake⟩
  · simp at h'
  · simp only [Value.slice.injEq, Option.some.injEq, Addr.mk.injEq, and_true, true_and] at h'; obtain ⟨rfl, rfl⟩ := h'; exact ⟨cur, hg, hcs, htake, hcm, hb, hnc⟩
theorem OwnP.cellsFrom {w : World} {base g n c i : Nat} {l : List PaneV} (h : OwnP w base (.slice (some ⟨g, 0, none⟩) n c) l) (hn : n = l.length) (hi : i ≤ n) : ∀ j v, (cellsLP (l.drop i))[j]? = some v → w.cell? ((⟨g, i * 8, none⟩ : Addr).add j) = some v := by
  intro j v hj; have hh := h; subst hn; unfold OwnP at hh; rw [cellsLP_drop l i hi, List.getElem?_drop] at hj; have hlt := (List.getElem?_eq_some_iff.1 hj).1; rw [cellsLP_length] at hlt
  rw [addr_add, World.ownsRow.cellAt hh _ (by omega)]
  exact hj
theorem put_mid {L M : List PaneV} {i k n : Nat} {cur : Array Value} (hn : n = L.length) (hk : k = M.length) (hik : i + k ≤ n) (ht : cur.toList.take (n * 8) = cellsLP L) :
    (cur.toList.take (i * 8) ++ cellsLP M ++ cur.toList.drop (i * 8 + (cellsLP M).length)).take (n * 8) = cellsLP (L.take i ++ M ++ L.drop (i + k)) := by
  have hM : (cellsLP M).length = k * 8 := by rw [cellsLP_length, hk]
  have e1 : cur.toList.take (i * 8) = (cellsLP L).take (i * 8) := by
    rw [← ht, List.take_take]
    congr 1
    omega
  have e2 : (cur.toList.drop (i * 8 + k * 8)).take (n * 8 - (i * 8 + k * 8)) = (cellsLP L).drop ((i + k) * 8) := by
    rw [← ht, List.drop_take]
    congr 1
    · omega
    · congr 1
      omega
  have hl1 : ((cellsLP L).take (i * 8) ++ cellsLP M).length = i * 8 + k * 8 := by
    rw [List.length_append, List.length_take, hM, cellsLP_length, ← hn]; omega
  rw [hM, e1, List.take_append, List.take_of_length_le (by omega), hl1, e2, cellsLP_append, cellsLP_append, cellsLP_take L i (by omega), cellsLP_drop L (i + k) (by omega)]
theorem run_copy_ownP (w : World) (ty : TypeId) {base g n c i k : Nat} {L M : List PaneV} (hO : OwnP w base (.slice (some ⟨g, 0, none⟩) n c) L) (hn : n = L.length) (hk : k = M.length) (hik : i + k ≤ n) (dLen dCap : Nat) (x : Addr) (sLen sCap : Nat) (hmin : k = Nat.min sLen dLen)
    (hsrc : ∀ j v, (cellsLP M)[j]? = some v → w.cell? (x.add j) = some v) :
    ∃ w', (Builtin.copy_ #[27, 27] ty #[.slice (some ⟨g, i * 8, none⟩) dLen dCap, .slice (some x) sLen sCap]).run Tryz.prog w = .ok (goInt k) w' ∧ OwnP w' base (.slice (some ⟨g, 0, none⟩) n c) (L.take i ++ M ++ L.drop (i + k)) ∧ w.grownBy w' (some g) := by
  obtain ⟨cur, hg, hcs, ht, hcm, hb, hnc⟩ := hO.row hn
  have hM : (cellsLP M).length = k * 8 := by rw [cellsLP_length, hk]
  refine ⟨_, run_copyP w ty g (i * 8) dLen dCap x sLen sCap k (cellsLP M) cur hg hmin hM hsrc (cellsLP_one M) (by omega), ?_, grown_setRow _ _ _⟩
  have hlen : (L.take i ++ M ++ L.drop (i + k)).length = n := by
    rw [List.length_append, List.length_append, List.length_take, List.length_drop]; omega
  unfold OwnP; rw [hlen]
  refine ⟨by rw [cellsLP_length, hlen], .inr ⟨g, c, _, rfl, hb, setRow_heap w g _ _ _ _ hg, hnc, hcm, ?_, ?_⟩⟩
  · simp only [List.size_toArray, List.length_append, List.length_take, List.length_drop, Array.length_toList, hM]; omega
  · exact put_mid hn hk hik ht
theorem wp_copy_ownP {o : Oper} {a : Act} {w : World} {K : Act → World → Prop} {Q : Exit → Act → World → Prop} (d s : Operand) (ho : o.op = .call { callee := .builtin .copy, args := #[d, s], argTypes := #[27, 27] })
    {base g n c i k : Nat} {L M : List PaneV} (hO : OwnP w base (.slice (some ⟨g, 0, none⟩) n c) L) (hn : n = L.length) (hk : k = M.length) (hik : i + k ≤ n) (dLen dCap : Nat) (x : Addr) (sLen sCap : Nat) (hmin : k = Nat.min sLen dLen)
    (hsrc : ∀ j v, (cellsLP M)[j]? = some v → w.cell? (x.add j) = some v) (hd : a.eval d = .slice (some ⟨g, i * 8, none⟩) dLen dCap) (hs : a.eval s = .slice (some x) sLen sCap)
    (h : ∀ w', OwnP w' base (.slice (some ⟨g, 0, none⟩) n c) (L.take i ++ M ++ L.drop (i + k)) → w.grownBy w' (some g) → K (a.put o.dst (goInt k)) w') : o.wp Tryz.prog a w K Q := by
  obtain ⟨w', hr, h1, h2⟩ := run_copy_ownP w o.type hO hn hk hik dLen dCap x sLen sCap hmin hsrc; unfold Oper.wp execOp; simp only [ho, resolve, invoke, builtin, Sem.run_bind, Sem.run_pure, Result.andThen_ok, List.map_toArray, List.map_cons, List.map_nil, hd, hs, hr]; exact h w' h1 h2
theorem wpList_copy_ownP {ops : Array Oper} {rest : List Oper} {o : Oper} {a : Act} {w : World} {Q : Exit → Act → World → Prop} (hgd : o.guard = none) (d s : Operand) (ho : o.op = .call { callee := .builtin .copy, args := #[d, s], argTypes := #[27, 27] })
    {base g n c i k : Nat} {L M : List PaneV} (hO : OwnP w base (.slice (some ⟨g, 0, none⟩) n c) L) (hn : n = L.length) (hk : k = M.length) (hik : i + k ≤ n) (dLen dCap : Nat) (x : Addr) (sLen sCap : Nat) (hmin : k = Nat.min sLen dLen)
    (hsrc : ∀ j v, (cellsLP M)[j]? = some v → w.cell? (x.add j) = some v) (hd : a.eval d = .slice (some ⟨g, i * 8, none⟩) dLen dCap) (hs : a.eval s = .slice (some x) sLen sCap)
    (h : ∀ w', OwnP w' base (.slice (some ⟨g, 0, none⟩) n c) (L.take i ++ M ++ L.drop (i + k)) → w.grownBy w' (some g) → wpList Tryz.prog ops Q rest (a.put o.dst (goInt k)) w') : wpList Tryz.prog ops Q (o :: rest) a w :=
  wpList_plain hgd fun _ hK => wp_copy_ownP d s ho hO hn hk hik dLen dCap x sLen sCap hmin hsrc hd hs (fun w' h1 h2 => hK _ _ (h w' h1 h2))
theorem run_slicePx (w : World) (g n c i : Nat) (h : i ≤ n) :
    (Instr.slice 27 (.slice (some ⟨g, 0, none⟩) n c) (some (.int .i64 (i : Int))) none none).run Tryz.prog w = .ok (.slice (some ⟨g, (if c = i then 0 else i * 8), none⟩) (n - i) (c - i)) w := by
  have hz : ∀ w, (sizeOf 55).run Tryz.prog w = .ok 8 w := Tryz.sizeOf55
  by_cases e : c = i
  · subst e; simp [Instr.slice, run_underlying Tryz.underlying27, Instr.sliceBounds, run_sliceBound, hz, h]
  · simp [Instr.slice, run_underlying Tryz.underlying27, Instr.sliceBounds, run_sliceBound, hz, h, addr_add, e]
theorem run_clear_ownP (w : World) (ty : TypeId) {base g n c i : Nat} {L : List PaneV} (hO : OwnP w base (.slice (some ⟨g, 0, none⟩) n c) L) (hn : n = L.length) (hi : i ≤ n) :
    ∃ w', (Builtin.clear_ #[27] ty #[.slice (some ⟨g, (if c = i then 0 else i * 8), none⟩) (n - i) (c - i)]).run Tryz.prog w = .ok (.tuple #[]) w' ∧ OwnP w' base (.slice (some ⟨g, 0, none⟩) i c) (L.take i) ∧ w.grownBy w' (some g) := by
  obtain ⟨cur, hg, hcs, ht, hcm, hb, hnc⟩ := hO.row hn
  by_cases e : n - i = 0
  · rw [e]
    refine ⟨w, by simp [Builtin.clear_, run_underlying Tryz.underlying27], hO.take hn hi, ⟨rfl, rfl, rfl, Nat.le_refl _, fun _ _ _ => rfl⟩⟩
  · obtain ⟨m, hm⟩ : ∃ m, n - i = m + 1 := ⟨n - i - 1, by omega⟩
    have ec : ¬ c = i := by omega
    rw [if_neg ec, hm]; obtain ⟨inf, hi1, hz, hs, hby⟩ := info_parts pane_parts
    have hst := run_storeCells_at Tryz.prog g (i * 8) 55 (cellsLP (List.replicate (m + 1) zeroPV)) 0 cur w hg (by rw [cellsLP_length, List.length_replicate]; omega) (cellsLP_one _)
    have hrun : (Builtin.clear_ #[27] ty #[.slice (some ⟨g, i * 8, none⟩) (m + 1) (c - i)]).run Tryz.prog w = .ok (.tuple #[]) (w.setRow g (cur.toList.take (i * 8) ++ cellsLP (List.replicate (m + 1) zeroPV) ++ cur.toList.drop (i * 8 + (cellsLP (List.replicate (m + 1) zeroPV)).length)).toArray) := by
      simp only [Nat.add_zero] at hst; simp [Builtin.clear_, zeroValue, typeInfo, run_underlying Tryz.underlying27, hi1, hz, zeroCells_panes, hst]
    refine ⟨_, hrun, ?_, grown_setRow _ _ _⟩
    have hlen : (L.take i).length = i := by rw [List.length_take]; omega
    unfold OwnP; rw [hlen]
    refine ⟨by rw [cellsLP_length, hlen], .inr ⟨g, c, _, rfl, hb, setRow_heap w g _ _ _ _ hg, by omega, hcm, ?_, ?_⟩⟩
    · simp only [List.size_toArray, List.length_append, List.length_take, List.length_drop, Array.length_toList, cellsLP_length, List.length_replicate]; omega
    · show List.take (i * 8) (cur.toList.take (i * 8) ++ _ ++ _) = _
      rw [List.append_assoc, List.take_append_of_le_length (by rw [List.length_take, Array.length_toList]; omega), List.take_take, Nat.min_self, cellsLP_take L i (by omega), ← ht, List.take_take, Nat.min_eq_left (show i * 8 ≤ n * 8 by omega)]
theorem wpList_clear_ownP {ops : Array Oper} {rest : List Oper} {o : Oper} {a : Act} {w : World} {Q : Exit → Act → World → Prop} (hgd : o.guard = none) (s : Operand) (ho : o.op = .call { callee := .builtin .clear, args := #[s], argTypes := #[27] })
    {base g n c i : Nat} {L : List PaneV} (hO : OwnP w base (.slice (some ⟨g, 0, none⟩) n c) L) (hn : n = L.length) (hi : i ≤ n) (hs : a.eval s = .slice (some ⟨g, (if c = i then 0 else i * 8), none⟩) (n - i) (c - i))
    (h : ∀ w', OwnP w' base (.slice (some ⟨g, 0, none⟩) i c) (L.take i) → w.grownBy w' (some g) → wpList Tryz.prog ops Q rest (a.put o.dst (.tuple #[])) w') : wpList Tryz.prog ops Q (o :: rest) a w := by
  refine wpList_plain hgd fun K hK => ?_; obtain ⟨w', hr, h1, h2⟩ := run_clear_ownP w o.type hO hn hi; unfold Oper.wp execOp; simp only [ho, resolve, invoke, builtin, Sem.run_bind, Sem.run_pure, Result.andThen_ok, List.map_toArray, List.map_cons, List.map_nil, hs, hr]; exact hK _ _ (h w' h1 h2)
theorem wpList_zerosP {ops : Array Oper} {rest : List Oper} {o : Oper} {a : Act} {w : World} {Q : Exit → Act → World → Prop} (hgd : o.guard = none) (s x : Operand) (ho : o.op = .call { callee := .builtin .append, args := #[s, x], argTypes := #[27, 3] })
    {base g n c m : Nat} {L : List PaneV} (hO : OwnP w base (.slice (some ⟨g, 0, none⟩) n c) L) (hn : n = L.length) (hg : c < n + m) (hm : 0 < m) (hsz : n + m ≤ 1000000) (hs : a.eval s = .slice (some ⟨g, 0, none⟩) n c) (M : Int) (hx : a.eval x = .int .i64 M) (hM : M = (m : Int))
    (h : ∀ cap w', OwnP w' w.heap.size (.slice (some ⟨w.heap.size, 0, none⟩) (n + m) cap) (L ++ List.replicate m zeroPV) → w.grownBy w' none → wpList Tryz.prog ops Q rest (a.put o.dst (.slice (some ⟨w.heap.size, 0, none⟩) (n + m) cap)) w') : wpList Tryz.prog ops Q (o :: rest) a w := by
  subst hM; refine wpList_plain hgd fun K hK => ?_
  obtain ⟨cap, w', hr, h1, h2⟩ := run_append_zerosP w (c := c) (m := m) o.type hn.symm (fun j u hj => by have := hO.cellsFrom hn (Nat.zero_le n) j u (by simpa using hj); simpa [addr_add] using this) hg hm hsz
  unfold Oper.wp execOp; simp only [ho, resolve, invoke, builtin, Sem.run_bind, Sem.run_pure, Result.andThen_ok, List.map_toArray, List.map_cons, List.map_nil, hs, hx, hr]; exact hK _ _ (h cap w' h1 h2)
end Go.Proofs.YtjeeghafachebaaGreat
namespace Go.Proofs.YtjeeghafachebaaGreat
open Go Go.RowKit
def InsEnd (w : World) (base : Nat) (v : Value) (L : List PaneV) (e : Ending) (w' : World) : Prop := ∃ v', e = .returned v' ∧ OwnP w' base v' L ∧ w.grownBy w' v.ownBlock ∧ (v'.ownBlock = v.ownBlock ∨ v'.ownBlock = some w.heap.size)
theorem run_append_inP (w : World) (ty : TypeId) {base g n c i : Nat} {L : List PaneV} (hO : OwnP w base (.slice (some ⟨g, 0, none⟩) n c) L) (hn : n = L.length) (hi : i + 1 ≤ n) {y : PaneV} {q : Nat} (hu : ∀ j z, y.cells[j]? = some z → w.cell? ⟨q, j, none⟩ = some z) :
    ∃ w', (Builtin.append_ #[27, 27] ty #[.slice (some ⟨g, 0, none⟩) i c, .slice (some ⟨q, 0, none⟩) 1 1]).run Tryz.prog w = .ok (.slice (some ⟨g, 0, none⟩) (i + 1) c) w' ∧ OwnP w' base (.slice (some ⟨g, 0, none⟩) n c) (L.take i ++ [y] ++ L.drop (i + 1)) ∧ w.grownBy w' (some g) := by
  obtain ⟨cur, hg, hcs, ht, hcm, hb, hnc⟩ := hO.row hn; obtain ⟨inf, hi1, hz, hs, hby⟩ := info_parts pane_parts; have h8 : y.cells.toList.length = 8 := rfl
  have hr := run_append_room (P := Tryz.prog) w 27 ty 55 inf Tryz.underlying27 hi1 g i c cur hg ⟨q, 0, none⟩ 1 1 y.cells.toList (by rw [h8, hs]) (fun j u hj => by rw [addr_add, Nat.zero_add]; exact hu j u (by simpa using hj)) (fun z hz => Array.all_eq_true'.1 (pane_one y) z (by simpa using hz)) (by omega) (by rw [h8, hs]; omega)
  rw [hs] at hr; refine ⟨_, hr, ?_, grown_setRow _ _ _⟩
  have hM : cellsLP [y] = y.cells.toList := by simp [cellsLP]
  have hlen : (L.take i ++ [y] ++ L.drop (i + 1)).length = n := by
    rw [List.length_append, List.length_append, List.length_take, List.length_drop, List.length_singleton]; omega
  have hm := put_mid (M := [y]) hn rfl (i := i) (k := 1) hi ht; rw [hM] at hm; unfold OwnP; rw [hlen]
  refine ⟨by rw [cellsLP_length, hlen], .inr ⟨g, c, _, rfl, hb, setRow_heap w g _ _ _ _ hg, hnc, hcm, ?_, hm⟩⟩
  simp only [List.size_toArray, List.length_append, List.length_take, List.length_drop, Array.length_toList, h8]; omega
theorem wpList_append_inP {ops : Array Oper} {rest : List Oper} {o : Oper} {a : Act} {w : World} {Q : Exit → Act → World → Prop} (hgd : o.guard = none) (s x : Operand) (ho : o.op = .call { callee := .builtin .append, args := #[s, x], argTypes := #[27, 27] })
    {base g n c i : Nat} {L : List PaneV} (hO : OwnP w base (.slice (some ⟨g, 0, none⟩) n c) L) (hn : n = L.length) (hi : i + 1 ≤ n) {y : PaneV} {q : Nat} (hu : ∀ j z, y.cells[j]? = some z → w.cell? ⟨q, j, none⟩ = some z) (hs : a.eval s = .slice (some ⟨g, 0, none⟩) i c) (hx : a.eval x = .slice (some ⟨q, 0, none⟩) 1 1)
    (h : ∀ w', OwnP w' base (.slice (some ⟨g, 0, none⟩) n c) (L.take i ++ [y] ++ L.drop (i + 1)) → w.grownBy w' (some g) → wpList Tryz.prog ops Q rest (a.put o.dst (.slice (some ⟨g, 0, none⟩) (i + 1) c)) w') : wpList Tryz.prog ops Q (o :: rest) a w := by
  refine wpList_plain hgd fun K hK => ?_; obtain ⟨w', hr, h1, h2⟩ := run_append_inP w o.type hO hn hi hu; unfold Oper.wp execOp; simp only [ho, resolve, invoke, builtin, Sem.run_bind, Sem.run_pure, Result.andThen_ok, List.map_toArray, List.map_cons, List.map_nil, hs, hx, hr]; exact hK _ _ (h w' h1 h2)
theorem grown_none {w w' : World} (h : w.grownBy w' none) (r : Option Nat) : w.grownBy w' r := ⟨h.os, h.tape, h.output, h.size, fun j hj _ => h.block j hj (by simp)⟩
theorem grown_new {w w' w'' : World} {g : Nat} (h : w.grownBy w' none) (h' : w'.grownBy w'' (some g)) (hg : w.heap.size ≤ g) : w.grownBy w'' none :=
  ⟨h'.os.trans h.os, h'.tape.trans h.tape, h'.output.trans h.output, Nat.le_trans h.size h'.size, fun j hj hne => (h'.block j (Nat.lt_of_lt_of_le hj h.size) (by simp; omega)).trans (h.block j hj hne)⟩
theorem grown_below_none {w w' : World} (h : w.grownBy w' none) : Below w.heap.size w w' := ⟨h.os, h.tape, h.output, h.size, fun k hk => h.block k hk (by simp)⟩
set_option maxRecDepth 100000 in
set_option maxHeartbeats 2000000 in
theorem insertP_end (w : World) (base q : Nat) (v : Value) (l : List PaneV) (y : PaneV) (hO : OwnP w base v l) (hq : RowP w q y) (hb : base ≤ w.heap.size) (hn : l.length + 1 ≤ 1000000) :
    Calls Tryz.prog 101 #[v, .int .i64 (l.length : Int), .slice (some ⟨q, 0, none⟩) 1 1] w (InsEnd w base v (l ++ [y])) := by
  obtain ⟨P, hP⟩ : ∃ P, P = InsEnd w base v (l ++ [y]) := ⟨_, rfl⟩; rw [← hP]; obtain ⟨n, hN⟩ : ∃ n, n = l.length := ⟨_, rfl⟩
  have HYes : Hid (∀ v' w', OwnP w' base v' (l ++ [y]) → w.grownBy w' v.ownBlock → (v'.ownBlock = v.ownBlock ∨ v'.ownBlock = some w.heap.size) → P (.returned v') w') := Lib.hid (fun v' w' h1 h2 h3 => by rw [hP]; exact ⟨v', rfl, h1, h2, h3⟩)
  have HO := Lib.hid (And.intro hO (And.intro hb (And.intro hn fun j z (hz : y.cells[j]? = some z) => hq.cell j hz))); have hm1 : ((1 : Int) == 0) = false := rfl; have hsh := hO.shape; rw [← hN] at hsh ⊢; have HN := Lib.hid hN; clear hP hO hq hb hn hN
  rcases hsh with ⟨rfl, hl⟩ | ⟨g, c, rfl, hc⟩
  · obtain rfl : n = 0 := by rw [HN.out, hl]; rfl
    have hsl0 : ∀ w', (Instr.slice 27 (.slice none 0 0) (some (.int .i64 0)) none none).run Tryz.prog w' = .ok (.slice none 0 0) w' := fun w' => by
      simp [Instr.slice, run_underlying Tryz.underlying27, Instr.sliceBounds, run_sliceBound, show ∀ w, (sizeOf 55).run Tryz.prog w = .ok 8 w from Tryz.sizeOf55]
    unfold nilV at HO HYes ⊢; clear hl
    go_enter Tryz.func101, Tryz.ntmps101
    go_upto_region 7 with (fail)
    refine wp_region_lit ?_
    iterate 6 go_step
    refine wpList_pushP rfl (.tmp 23) (.tmp 24) rfl base _ l rfl HO.out.1 y q rfl (fun j z hz => HO.out.2.2.2 j z hz) HO.out.2.2.1 HO.out.2.1 ?_; intro v' w' k1 k2 k3; have HZ := Lib.hid (HYes.out v' w' k1 k2 k3)
    rcases k1.shape with ⟨rfl, h⟩ | ⟨g', c', rfl, _⟩
    · simp at h
    have HZ : Hid (P (.returned (.slice (some ⟨g', 0, none⟩) (l.length + 1) c')) w') := by
      have h := HZ.out; rw [List.length_append, List.length_singleton] at h; exact Lib.hid h
    rw [List.length_append, List.length_singleton]; clear k1 k2 k3 hsl0; go_wp2_with (fail); exact HZ.out
  · obtain ⟨o0, ho⟩ : ∃ o, o = (if c = n then 0 else n * 8) := ⟨_, rfl⟩
    have hsl0 : ∀ w', (Instr.slice 27 (.slice (some ⟨g, 0, none⟩) n c) (some (.int .i64 (n : Int))) none none).run Tryz.prog w' = .ok (.slice (some ⟨g, o0, none⟩) (n - n) (c - n)) w' := fun w' => by rw [ho]; exact run_slicePx w' g n c n (Nat.le_refl _)
    clear ho
    have e1 : ((n : Int) == (n : Int)) = true := by simp
    clear hc
    go_enter Tryz.func101, Tryz.ntmps101
    go_upto_region 7 with (fail)
    refine wp_region_lit ?_
    iterate 6 go_step
    refine wpList_pushP rfl (.tmp 23) (.tmp 24) rfl base _ l rfl HO.out.1 y q rfl (fun j z hz => HO.out.2.2.2 j z hz) HO.out.2.2.1 HO.out.2.1 ?_; intro v' w' k1 k2 k3; have HZ := Lib.hid (HYes.out v' w' k1 k2 k3)
    rcases k1.shape with ⟨rfl, h⟩ | ⟨g', c', rfl, _⟩
    · simp at h
    have HZ : Hid (P (.returned (.slice (some ⟨g', 0, none⟩) (l.length + 1) c')) w') := by
      have h := HZ.out; rw [List.length_append, List.length_singleton] at h; exact Lib.hid h
    rw [List.length_append, List.length_singleton]; clear k1 k2 k3 hsl0; go_wp2_with (fail); exact HZ.out
def IgG (w : World) (gn n cap i : Nat) (l : List PaneV) (y : PaneV) : Nat → World → Prop
  | 0, w' => OwnP w' w.heap.size (.slice (some ⟨gn, 0, none⟩) (n + 1) cap) (l.take i ++ [y] ++ List.replicate (n - i) zeroPV) ∧ w.grownBy w' none
  | _ + 1, w' => OwnP w' w.heap.size (.slice (some ⟨gn, 0, none⟩) (n + 1) cap) (l.take i ++ [y] ++ l.drop i) ∧ w.grownBy w' none
theorem grown_none_trans {w w' w'' : World} (h : w.grownBy w' none) (hB : Below w'.heap.size w' w'') : w.grownBy w'' none :=
  ⟨hB.os.trans h.os, hB.tape.trans h.tape, hB.output.trans h.output, Nat.le_trans h.size hB.size, fun j hj hne => (hB.block j (Nat.lt_of_lt_of_le hj h.size)).trans (h.block j hj hne)⟩
set_option maxRecDepth 100000 in
set_option maxHeartbeats 4000000 in

theorem insertP_grow (w : World) (base g c i q : Nat) (l : List PaneV) (y : PaneV) (hO : OwnP w base (.slice (some ⟨g, 0, none⟩) l.length c) l) (hq : RowP w q y) (hi : i < l.length) (hc : c < l.length + 1) (hb : base ≤ w.heap.size) (hn : l.length + 1 ≤ 1000000) :
    Calls Tryz.prog 101 #[.slice (some ⟨g, 0, none⟩) l.length c, .int .i64 (i : Int), .slice (some ⟨q, 0, none⟩) 1 1] w (InsEnd w base (.slice (some ⟨g, 0, none⟩) l.length c) (l.take i ++ [y] ++ l.drop i)) := by
  obtain ⟨n, hN⟩ : ∃ n, n = l.length := ⟨_, rfl⟩; rw [← hN] at hO hi hc hn ⊢; obtain ⟨P, hP⟩ : ∃ P, P = InsEnd w base (.slice (some ⟨g, 0, none⟩) n c) (l.take i ++ [y] ++ l.drop i) := ⟨_, rfl⟩; rw [← hP]
  have HYes : Hid (∀ gn cap w', OwnP w' w.heap.size (.slice (some ⟨gn, 0, none⟩) (n + 1) cap) (l.take i ++ [y] ++ l.drop i) → gn = w.heap.size → w.grownBy w' none → P (.returned (.slice (some ⟨gn, 0, none⟩) (n + 1) cap)) w') := Lib.hid (fun gn cap w' h1 h2 h3 => by
    rw [hP]
    refine ⟨_, rfl, ?_, grown_none h3 _, .inr (by rw [h2]; rfl)⟩
    exact OwnP.mono h1 hb)
  have HO := Lib.hid (And.intro hO (And.intro hq (And.intro hN hb)))
  have HLt : Hid (i < n ∧ c < n + 1 ∧ n + 1 ≤ 1000000 ∧ n ≤ c) := Lib.hid ⟨hi, hc, hn, by obtain ⟨_, _, _, _, _, _, h⟩ := hO.row hN; exact h⟩
  have hnc : n ≤ c := HLt.out.2.2.2
  have hsl0 : ∀ w', (Instr.slice 27 (.slice (some ⟨g, 0, none⟩) n c) (some (.int .i64 (i : Int))) none none).run Tryz.prog w' = .ok (.slice (some ⟨g, i * 8, none⟩) (n - i) (c - i)) w' := fun w' => by
    have h := run_slicePx w' g n c i (by omega)
    rwa [if_neg (by omega)] at h
  have hslh : ∀ w', (Instr.slice 27 (.slice (some ⟨g, 0, none⟩) n c) none (some (.int .i64 (i : Int))) none).run Tryz.prog w' = .ok (.slice (some ⟨g, 0, none⟩) i c) w' := fun w' => run_sliceP_h w' _ n c i (by omega)
  have hm1 : ((1 : Int) == 0) = false := rfl
  have e1 : ((i : Int) == (n : Int)) = false := by simpa using fun h : (i : Int) = (n : Int) => by omega
  have hgt : (c : Int) < (n : Int) + 1 := by omega
  have HS0 := Lib.hid hsl0; clear hP hN hO hq hb
  go_enter Tryz.func101, Tryz.ntmps101
  go_upto_region 9 with (fail)
  refine wp_region_lit ?_
  iterate 24 go_step
  refine wpList_zerosP rfl (.tmp 34) (.tmp 39) rfl (m := n + 1 - i) (HO.out.1.take HO.out.2.2.1 (by omega)) (by rw [List.length_take, ← HO.out.2.2.1]; omega) (by omega) (by omega) (by omega) rfl _ rfl (by omega) ?_
  intro cap w2 k1 k2
  rw [show i + (n + 1 - i) = n + 1 by omega] at k1 ⊢
  obtain ⟨gn, hgn⟩ : ∃ b, b = w.heap.size := ⟨_, rfl⟩; rw [← hgn] at k1 ⊢
  have hcap : n + 1 ≤ cap := by obtain ⟨_, _, _, _, _, _, h⟩ := k1.row (by rw [List.length_append, List.length_replicate, List.length_take, ← HO.out.2.2.1]; omega); exact h
  have H2 : Hid (OwnP w2 w.heap.size (.slice (some ⟨gn, 0, none⟩) (n + 1) cap) (l.take i ++ List.replicate (n + 1 - i) zeroPV) ∧ w.grownBy w2 none ∧ gn = w.heap.size) := Lib.hid ⟨by rw [← hgn]; exact k1, k2, hgn⟩
  clear k1 k2 hgn
  have hs1 : ∀ w', (Instr.slice 27 (.slice (some ⟨gn, 0, none⟩) (n + 1) cap) (some (.int .i64 (i : Int))) none none).run Tryz.prog w' = .ok (.slice (some ⟨gn, i * 8, none⟩) (n + 1 - i) (cap - i)) w' := fun w' => by
    have h := run_slicePx w' gn (n + 1) cap i (by omega)
    rwa [if_neg (by omega)] at h
  have hs2 : ∀ w', (Instr.slice 27 (.slice (some ⟨gn, 0, none⟩) (n + 1) cap) (some (.int .i64 ((i : Int) + 1))) none none).run Tryz.prog w' = .ok (.slice (some ⟨gn, (i + 1) * 8, none⟩) (n - i) (cap - (i + 1))) w' := fun w' => by
    have h := run_slicePx w' gn (n + 1) cap (i + 1) (by omega)
    rwa [if_neg (by omega), show ((i + 1 : Nat) : Int) = (i : Int) + 1 by omega, show n + 1 - (i + 1) = n - i by omega] at h
  go_upto_region 10 with (fail)
  refine wp_region_lit ?_
  iterate 12 go_step
  refine wpList_copy_ownP rfl (.tmp 43) (.tmp 44) rfl (M := [y]) (i := i) (k := 1) H2.out.1 (by rw [List.length_append, List.length_replicate, List.length_take, ← HO.out.2.2.1]; omega) rfl (by omega) (n + 1 - i) (cap - i) ⟨q, 0, none⟩ 1 1 (Nat.min_eq_left (by omega)).symm (fun j v hj => by
    rw [addr_add, Nat.zero_add]; have hR := HO.out.2.1.below (grown_below_none H2.out.2.1)
    exact hR.cell j (by simpa [cellsLP] using hj)) rfl rfl ?_
  intro w3 j1 j2
  have hL1 : (l.take i ++ List.replicate (n + 1 - i) zeroPV).take i ++ [y] ++ (l.take i ++ List.replicate (n + 1 - i) zeroPV).drop (i + 1) = l.take i ++ [y] ++ List.replicate (n - i) zeroPV := by
    have hl : (l.take i).length = i := by rw [List.length_take, ← HO.out.2.2.1]; omega
    rw [List.take_left' hl, List.drop_append, List.drop_eq_nil_of_le (by omega), hl, List.nil_append, List.drop_replicate]
    congr 2
    omega
  rw [hL1] at j1
  have H3 : Hid (OwnP w3 w.heap.size (.slice (some ⟨gn, 0, none⟩) (n + 1) cap) (l.take i ++ [y] ++ List.replicate (n - i) zeroPV) ∧ w.grownBy w3 none ∧ gn = w.heap.size) := Lib.hid ⟨j1, grown_new H2.out.2.1 j2 (by rw [H2.out.2.2]; exact Nat.le_refl _), H2.out.2.2⟩
  clear j1 j2 hL1 H2; have HS := Lib.hid (And.intro hs2 (And.intro hcap hi)); clear hs1 hs2
  go_upto_region 11 with (fail)
  have HG0 : Hid (IgG w gn n cap i l y 0 w3.drew) := by
    have hd := (Below.refl w3.heap.size w3).drew; exact Lib.hid ⟨H3.out.1.far hd, grown_none_trans H3.out.2.1 hd⟩
  refine wp_region_skip_frame (fun i => ([] : List Nat).contains i) (by kernel_rfl) [none, none, none, none, none, none, none, none, some 0] [8] (V4 ((Value.slice (some ⟨gn, 0, none⟩) (n + 1) cap) :: (Value.int .i64 (i : Int)) :: (Value.int .i64 (1 : Int)) :: (Value.int .i64 ((i : Int) + 1)) :: (Value.slice (some ⟨gn, (i + 1) * 8, none⟩) (n - i) (cap - (i + 1))) :: (Value.slice (some ⟨g, 0, none⟩) n c) :: (Value.int .i64 (i : Int)) :: (Value.slice (some ⟨g, i * 8, none⟩) (n - i) (c - i)) :: goInt ((n - i : Nat) : Int) :: ([] : List Value)) 99 (fun _ _ _ => True) 99 (fun _ _ _ => True) 99 (fun _ _ _ => True) 99 (fun _ _ _ => True)) (IgG w gn n cap i l y) (fun w w' => Below w.heap.size w w') (V4_le _ (fun _ _ _ _ _ h => h) (fun _ _ _ _ _ h => h) (fun _ _ _ _ _ h => h) (fun _ _ _ _ _ h => h)) (by kernel_rfl) (by kernel_rfl) (by kernel_rfl) HG0.out (fun _ => ⟨rfl, rfl, rfl, rfl, rfl, rfl, rfl, rfl, rfl, trivial⟩) (fun _ h => by simp at h) ?_ ?_
  · refine ⟨?_, ?_, ?_, ?_, ?_, ?_, ?_, ?_, ?_, trivial⟩
    · intro _ _ a w' hG hout hpre K hK; have q9 := ev_of ((hout 9 rfl).trans (show _ = .slice (some ⟨gn, 0, none⟩) (n + 1) cap from rfl)); clear hout hpre; go_step; exact hK _ _ rfl hG (Below.refl _ _)
    · intro _ _ a w' hG hout hpre K hK; have q1 := ev_of ((hout 1 rfl).trans (show _ = .int .i64 (i : Int) from rfl)); clear hout hpre; go_step; exact hK _ _ rfl hG (Below.refl _ _)
    · intro _ _ a w' hG hout hpre K hK; have q7 := ev_of ((hout 7 rfl).trans (show _ = .int .i64 (1 : Int) from rfl)); clear hout hpre; go_step; exact hK _ _ rfl hG (Below.refl _ _)
    · intro _ _ a w' hG hout hpre K hK; obtain ⟨p0, p1, _⟩ := hpre; have q47 := ev_of (show a.eval (.tmp 47) = .int .i64 (i : Int) from p0); have q48 := ev_of (show a.eval (.tmp 48) = .int .i64 (1 : Int) from p1); have hlt := HLt.out; clear hout p0 p1; go_step; exact hK _ _ rfl hG (Below.refl _ _)
    · intro _ _ a w' hG hout hpre K hK; obtain ⟨p0, p1, _⟩ := hpre; have q46 := ev_of (show a.eval (.tmp 46) = .slice (some ⟨gn, 0, none⟩) (n + 1) cap from p0); have q49 := ev_of (show a.eval (.tmp 49) = .int .i64 ((i : Int) + 1) from p1); have hsl := HS.out.1; clear hout p0 p1; go_step; exact hK _ _ rfl hG (Below.refl _ _)
    · intro _ _ a w' hG hout hpre K hK; have q0 := ev_of ((hout 0 rfl).trans (show _ = .slice (some ⟨g, 0, none⟩) n c from rfl)); clear hout hpre; go_step; exact hK _ _ rfl hG (Below.refl _ _)
    · intro _ _ a w' hG hout hpre K hK; have q1 := ev_of ((hout 1 rfl).trans (show _ = .int .i64 (i : Int) from rfl)); clear hout hpre; go_step; exact hK _ _ rfl hG (Below.refl _ _)
    · intro _ _ a w' hG hout hpre K hK; obtain ⟨p0, p1, _⟩ := hpre; have q51 := ev_of (show a.eval (.tmp 51) = .slice (some ⟨g, 0, none⟩) n c from p0); have q52 := ev_of (show a.eval (.tmp 52) = .int .i64 (i : Int) from p1); have hsl := HS0.out; clear hout p0 p1; go_step; exact hK _ _ rfl hG (Below.refl _ _)
    · intro _ a w' hG hout hpre K hK; obtain ⟨p0, p1, _⟩ := hpre; have r50 := (show a.eval (.tmp 50) = .slice (some ⟨gn, (i + 1) * 8, none⟩) (n - i) (cap - (i + 1)) from p0); have r53 := (show a.eval (.tmp 53) = .slice (some ⟨g, i * 8, none⟩) (n - i) (c - i) from p1); obtain ⟨hO2, hgr⟩ := (show OwnP w' w.heap.size (.slice (some ⟨gn, 0, none⟩) (n + 1) cap) (l.take i ++ [y] ++ List.replicate (n - i) zeroPV) ∧ w.grownBy w' none from hG); have hlt := HLt.out; have hN := HO.out.2.2.1
      have hl1 : (l.take i ++ [y]).length = i + 1 := by rw [List.length_append, List.length_take, ← hN, List.length_singleton]; omega
      refine wp_copy_ownP (.tmp 50) (.tmp 53) rfl (M := l.drop i) (i := i + 1) (k := n - i) hO2 (by rw [List.length_append, hl1, List.length_replicate]; omega) (by rw [List.length_drop, ← hN]) (by omega) (n - i) (cap - (i + 1)) ⟨g, i * 8, none⟩ (n - i) (c - i) (Nat.min_self _).symm (fun j v hj => ?_) r50 r53 (fun w3_ m1 m2 => ?_)
      · exact (HO.out.1.far (grown_below_none hgr)).cellsFrom hN (by omega) j v hj
      · have hdn : (l.take i ++ [y] ++ List.replicate (n - i) zeroPV).drop (i + 1 + (n - i)) = [] := List.drop_eq_nil_of_le (by rw [List.length_append, hl1, List.length_replicate]; omega)
        rw [List.take_left' hl1, hdn, List.append_nil] at m1
        exact hK _ _ rfl ⟨m1, grown_new hgr m2 (by rw [H3.out.2.2]; exact Nat.le_refl _)⟩ (V4_keep (.inr fun _ h => h) (.inr fun _ h => h) (.inr fun _ h => h) (.inr fun _ h => h))
  · intro vs w2_ hG hlen hV
    match vs, hlen, hV with
    | [v0, v1, v2, v3, v4, v5, v6, v7, v8], _, hV =>
      clear hV; have hG1 : OwnP w2_ w.heap.size (.slice (some ⟨gn, 0, none⟩) (n + 1) cap) (l.take i ++ [y] ++ l.drop i) ∧ w.grownBy w2_ none := hG; have HZ := Lib.hid (HYes.out gn cap w2_ hG1.1 H3.out.2.2 hG1.2); clear hG hG1; simp only [putsL, List.tail_cons, List.headD_cons]; simp only [Act.put, List.setIfInBounds_toArray, List.set_cons_succ, List.set_cons_zero]; go_wp2_with (fail); exact HZ.out
theorem insertP_all (w : World) (base i q : Nat) (v : Value) (l : List PaneV) (y : PaneV) (hO : OwnP w base v l) (hq : RowP w q y) (hqv : v.ownBlock ≠ some q) (hi : i ≤ l.length) (hb : base ≤ w.heap.size) (hn : l.length + 1 ≤ 1000000) :
    Calls Tryz.prog 101 #[v, .int .i64 (i : Int), .slice (some ⟨q, 0, none⟩) 1 1] w (InsEnd w base v (l.take i ++ [y] ++ l.drop i)) := by
  by_cases he : i = l.length
  · subst he; rw [List.take_length, List.drop_length, List.append_nil]; exact insertP_end w base q v l y hO hq hb hn
  · rcases hO.shape with ⟨rfl, hl⟩ | ⟨g, c, rfl, hc⟩
    · rw [hl] at hi he; simp at hi he; omega
    · by_cases hr : l.length + 1 ≤ c
      · refine (insertP_any w base g c i q l y hO hq (fun e => hqv (by rw [e]; rfl)) hi hr (by omega)).mono ?_
        rintro e w' ⟨rfl, h1, h2⟩; exact ⟨_, rfl, h1, h2, .inl rfl⟩
      · exact insertP_grow w base g c i q l y hO hq (by omega) (by omega) hb hn
end Go.Proofs.YtjeeghafachebaaGreat
namespace Go.Proofs.YtjeeghafachebaaGreat
open Go Go.RowKit
theorem run_slicePij (w : World) (g n c i j : Nat) (h : i ≤ j) (hj : j ≤ n) (hnc : n ≤ c) :
    (Instr.slice 27 (.slice (some ⟨g, 0, none⟩) n c) (some (.int .i64 (i : Int))) (some (.int .i64 (j : Int))) none).run Tryz.prog w = .ok (.slice (some ⟨g, (if c = i then 0 else i * 8), none⟩) (j - i) (c - i)) w := by
  have hz : ∀ w, (sizeOf 55).run Tryz.prog w = .ok 8 w := Tryz.sizeOf55
  have hjc : j ≤ c := by omega
  by_cases e : c = i
  · subst e; simp [Instr.slice, run_underlying Tryz.underlying27, Instr.sliceBounds, run_sliceBound, hz, h, hjc]
  · simp [Instr.slice, run_underlying Tryz.underlying27, Instr.sliceBounds, run_sliceBound, hz, h, hjc, addr_add, e]
def RpG (w : World) (base g n c i j : Nat) (l : List PaneV) (y : PaneV) : Nat → World → Prop
  | 0, w' => OwnP w' base (.slice (some ⟨g, 0, none⟩) n c) (l.take i ++ [y] ++ l.drop (i + 1)) ∧ w.grownBy w' (some g)
  | _ + 1, w' => OwnP w' base (.slice (some ⟨g, 0, none⟩) n c) ((l.take i ++ [y] ++ l.drop (i + 1)).take (i + 1) ++ l.drop j ++ (l.take i ++ [y] ++ l.drop (i + 1)).drop (i + 1 + (n - j))) ∧ w.grownBy w' (some g)
theorem grown_far {w w' w'' : World} {r : Option Nat} (h : w.grownBy w' r) (hB : Below w'.heap.size w' w'') : w.grownBy w'' r :=
  ⟨hB.os.trans h.os, hB.tape.trans h.tape, hB.output.trans h.output, Nat.le_trans h.size hB.size, fun j hj hne => (hB.block j (Nat.lt_of_lt_of_le hj h.size)).trans (h.block j hj hne)⟩
theorem grown_two {w w' w'' : World} {r : Option Nat} (h : w.grownBy w' r) (h' : w'.grownBy w'' r) : w.grownBy w'' r :=
  ⟨h'.os.trans h.os, h'.tape.trans h.tape, h'.output.trans h.output, Nat.le_trans h.size h'.size, fun j hj hne => (h'.block j (Nat.lt_of_lt_of_le hj h.size) hne).trans (h.block j hj hne)⟩
set_option maxRecDepth 100000 in
set_option maxHeartbeats 4000000 in
theorem replaceP_at (w : World) (base g c i j q : Nat) (l : List PaneV) (y : PaneV) (hO : OwnP w base (.slice (some ⟨g, 0, none⟩) l.length c) l) (hq : RowP w q y) (hqv : q ≠ g) (hij : i < j) (hj : j ≤ l.length) (hn : l.length + 1 ≤ 1000000) :
    Calls Tryz.prog 66 #[.slice (some ⟨g, 0, none⟩) l.length c, .int .i64 (i : Int), .int .i64 (j : Int), .slice (some ⟨q, 0, none⟩) 1 1] w (InsEnd w base (.slice (some ⟨g, 0, none⟩) l.length c) (l.take i ++ [y] ++ l.drop j)) := by
  obtain ⟨n, hN⟩ : ∃ n, n = l.length := ⟨_, rfl⟩; rw [← hN] at hO hj hn ⊢; obtain ⟨P, hP⟩ : ∃ P, P = InsEnd w base (.slice (some ⟨g, 0, none⟩) n c) (l.take i ++ [y] ++ l.drop j) := ⟨_, rfl⟩; rw [← hP]
  have HYes : Hid (∀ T w', OwnP w' base (.slice (some ⟨g, 0, none⟩) T c) (l.take i ++ [y] ++ l.drop j) → w.grownBy w' (some g) → P (.returned (.slice (some ⟨g, 0, none⟩) T c)) w') := Lib.hid (fun T w' h1 h2 => by
    rw [hP]
    exact ⟨_, rfl, h1, h2, .inl rfl⟩)
  have hnc : n ≤ c := by obtain ⟨_, _, _, _, _, _, h⟩ := hO.row hN; exact h
  have HO := Lib.hid (And.intro hO (And.intro hq (And.intro hN hqv))); have HLt : Hid (i < j ∧ j ≤ n ∧ n + 1 ≤ 1000000 ∧ n ≤ c) := Lib.hid ⟨hij, hj, hn, hnc⟩
  have hl1 : (l.take i ++ [y]).length = i + 1 := by rw [List.length_append, List.length_take, ← hN, List.length_singleton]; omega
  have HL1 := Lib.hid hl1
  have hsij : ∀ w', (Instr.slice 27 (.slice (some ⟨g, 0, none⟩) n c) (some (.int .i64 (i : Int))) (some (.int .i64 (j : Int))) none).run Tryz.prog w' = .ok (.slice (some ⟨g, i * 8, none⟩) (j - i) (c - i)) w' := fun w' => by
    have h := run_slicePij w' g n c i j (by omega) hj hnc
    rwa [if_neg (by omega)] at h
  have hslh : ∀ w', (Instr.slice 27 (.slice (some ⟨g, 0, none⟩) n c) none (some (.int .i64 (i : Int))) none).run Tryz.prog w' = .ok (.slice (some ⟨g, 0, none⟩) i c) w' := fun w' => run_sliceP_h w' _ n c i (by omega)
  have e0 : ((i : Int) == (j : Int)) = false := by simpa using fun h : (i : Int) = (j : Int) => by omega
  clear hP hN hO hq hqv hl1
  by_cases hjn : j = n
  · subst hjn
    have e1 : ((j : Int) == (j : Int)) = true := by simp
    go_enter Tryz.func66, Tryz.ntmps66
    go_upto_region 5 with (fail)
    refine wp_region_lit ?_
    iterate 12 go_step
    refine wpList_append_inP rfl (.tmp 32) (.tmp 33) rfl (i := i) HO.out.1 HO.out.2.2.1 (by omega) (fun k z hz => HO.out.2.1.cell k hz) rfl rfl ?_
    intro w2 k1 k2; have H2 : Hid (OwnP w2 base (.slice (some ⟨g, 0, none⟩) j c) (l.take i ++ [y] ++ l.drop (i + 1)) ∧ w.grownBy w2 (some g)) := Lib.hid ⟨k1, k2⟩
    have hlen2 : j = (l.take i ++ [y] ++ l.drop (i + 1)).length := by rw [List.length_append, HL1.out, List.length_drop, ← HO.out.2.2.1]; omega
    have htk : (l.take i ++ [y] ++ l.drop (i + 1)).take (i + 1) = l.take i ++ [y] ++ l.drop j := by
      rw [List.take_left' HL1.out, List.drop_eq_nil_of_le (show l.length ≤ j by rw [← HO.out.2.2.1]; exact Nat.le_refl _), List.append_nil]
    have HT := Lib.hid (And.intro hlen2 htk); clear k1 k2 hlen2 htk
    by_cases hlt : i + 1 < j
    · have hlt' : (i : Int) + 1 < (j : Int) := by omega
      obtain ⟨o0, ho⟩ : ∃ o, o = (if c = i + 1 then 0 else (i + 1) * 8) := ⟨_, rfl⟩
      have Ho := Lib.hid ho
      have hs2 : ∀ w', (Instr.slice 27 (.slice (some ⟨g, 0, none⟩) j c) (some (.int .i64 ((i : Int) + 1))) none none).run Tryz.prog w' = .ok (.slice (some ⟨g, o0, none⟩) (j - (i + 1)) (c - (i + 1))) w' := fun w' => by
        have h := run_slicePx w' g j c (i + 1) (by omega)
        rwa [← ho, show ((i + 1 : Nat) : Int) = (i : Int) + 1 by omega] at h
      clear ho
      go_upto_region 7 with (fail)
      refine wp_region_lit ?_
      iterate 12 go_step
      refine wpList_clear_ownP rfl (.tmp 43) rfl (i := i + 1) H2.out.1 HT.out.1 (by omega) (by rw [← Ho.out]; rfl) ?_
      intro w3 j1 j2
      have HZ : Hid (P (.returned (.slice (some ⟨g, 0, none⟩) (i + 1) c)) w3) := by
        rw [HT.out.2] at j1; exact Lib.hid (HYes.out (i + 1) w3 j1 (grown_two H2.out.2 j2))
      clear j1 j2 hs2; go_wp2_with (fail); exact HZ.out
    · have hlt' : ¬ ((i : Int) + 1 < (j : Int)) := by omega
      have HZ : Hid (P (.returned (.slice (some ⟨g, 0, none⟩) (i + 1) c)) w2) := by
        have h := H2.out.1.take HT.out.1 (i := i + 1) (by omega)
        rw [HT.out.2] at h; exact Lib.hid (HYes.out (i + 1) w2 h H2.out.2)
      go_wp2_with (fail); exact HZ.out
  · have hjlt : j < n := by omega
    have e1 : ((j : Int) == (n : Int)) = false := by simpa using fun h : (j : Int) = (n : Int) => hjn (by omega)
    obtain ⟨T, hT⟩ : ∃ T, T = i + 1 + (n - j) := ⟨_, rfl⟩
    have HT : Hid (T = i + 1 + (n - j) ∧ T ≤ n ∧ (i : Int) + 1 + ((n - j : Nat) : Int) = (T : Int) ∧ j < n) := Lib.hid ⟨hT, by omega, by omega, hjlt⟩
    have hsj : ∀ w', (Instr.slice 27 (.slice (some ⟨g, 0, none⟩) n c) (some (.int .i64 (j : Int))) none none).run Tryz.prog w' = .ok (.slice (some ⟨g, j * 8, none⟩) (n - j) (c - j)) w' := fun w' => by
      have h := run_slicePx w' g n c j hj
      rwa [if_neg (by omega)] at h
    have hsT : ∀ w', (Instr.slice 27 (.slice (some ⟨g, 0, none⟩) n c) none (some (.int .i64 (T : Int))) none).run Tryz.prog w' = .ok (.slice (some ⟨g, 0, none⟩) T c) w' := fun w' => run_sliceP_h w' _ n c T (by omega)
    have hsTi : ∀ w', (Instr.slice 27 (.slice (some ⟨g, 0, none⟩) T c) (some (.int .i64 (i : Int))) none none).run Tryz.prog w' = .ok (.slice (some ⟨g, i * 8, none⟩) (T - i) (c - i)) w' := fun w' => by
      have h := run_slicePx w' g T c i (by omega)
      rwa [if_neg (by omega)] at h
    have hsT1 : ∀ w', (Instr.slice 27 (.slice (some ⟨g, 0, none⟩) T c) (some (.int .i64 ((i : Int) + 1))) none none).run Tryz.prog w' = .ok (.slice (some ⟨g, (i + 1) * 8, none⟩) (n - j) (c - (i + 1))) w' := fun w' => by
      have h := run_slicePx w' g T c (i + 1) (by omega)
      rwa [if_neg (by omega), show ((i + 1 : Nat) : Int) = (i : Int) + 1 by omega, show T - (i + 1) = n - j by omega] at h
    obtain ⟨o0, ho⟩ : ∃ o, o = (if c = T then 0 else T * 8) := ⟨_, rfl⟩
    have Ho := Lib.hid ho
    have hscl : ∀ w', (Instr.slice 27 (.slice (some ⟨g, 0, none⟩) n c) (some (.int .i64 (T : Int))) none none).run Tryz.prog w' = .ok (.slice (some ⟨g, o0, none⟩) (n - T) (c - T)) w' := fun w' => by
      rw [ho]
      exact run_slicePx w' g n c T (by omega)
    have HS := Lib.hid (And.intro hslh (And.intro hsj hsT1))
    have hTc : ¬ ((c : Int) < (T : Int)) := by omega
    have hle : (i : Int) + 1 ≤ (j : Int) := by omega
    clear ho hT hjn
    go_enter Tryz.func66, Tryz.ntmps66
    go_upto_region 9 with (fail)
    have HG0 : Hid (w.drew = w.drew) := Lib.hid rfl; have HR := Lib.hid (And.intro hsTi (And.intro hscl (And.intro hsT (And.intro hTc hle))))
    refine wp_region_skip_frame (fun i => ([] : List Nat).contains i) (by kernel_rfl) [none, none, none, none, none, none, none, none, none, none, none, none, none] [] (fun i_ _ _ v_ => v_ = (((Value.slice (some ⟨g, 0, none⟩) n c) :: (Value.int .i64 (i : Int)) :: (Value.slice (some ⟨g, 0, none⟩) i c) :: (Value.int .i64 (i : Int)) :: (Value.slice (some ⟨q, 0, none⟩) 1 1) :: (Value.int .i64 (1 : Int)) :: (Value.int .i64 ((i : Int) + 1)) :: (Value.slice (some ⟨g, 0, none⟩) n c) :: (Value.int .i64 (j : Int)) :: (Value.slice (some ⟨g, j * 8, none⟩) (n - j) (c - j)) :: (Value.int .i64 ((n - j : Nat) : Int)) :: (Value.int .i64 (T : Int)) :: (Value.int .i64 (T : Int)) :: ([] : List Value))).getD i_ undef) (fun _ w' => Below w.heap.size w w') (fun w w' => Below w.heap.size w w') (fun _ _ _ _ _ _ h => h) (by kernel_rfl) (by kernel_rfl) (by kernel_rfl) (show Below w.heap.size w w.drew from (Below.refl _ w).drew) (fun _ => ⟨rfl, rfl, rfl, rfl, rfl, rfl, rfl, rfl, rfl, rfl, rfl, rfl, rfl, trivial⟩) (fun _ h => by simp at h) ?_ ?_
    · refine ⟨?_, ?_, ?_, ?_, ?_, ?_, ?_, ?_, ?_, ?_, ?_, ?_, ?_, trivial⟩
      · intro _ _ a w' hG hout hpre K hK; have q0 := ev_of ((hout 0 rfl).trans (show _ = .slice (some ⟨g, 0, none⟩) n c from rfl)); clear hout hpre; go_step; exact hK _ _ rfl hG (Below.refl _ _)
      · intro _ _ a w' hG hout hpre K hK; have q1 := ev_of ((hout 1 rfl).trans (show _ = .int .i64 (i : Int) from rfl)); clear hout hpre; go_step; exact hK _ _ rfl hG (Below.refl _ _)
      · intro _ _ a w' hG hout hpre K hK; obtain ⟨p0, p1, _⟩ := hpre; have q45 := ev_of (show a.eval (.tmp 45) = .slice (some ⟨g, 0, none⟩) n c from p0); have q46 := ev_of (show a.eval (.tmp 46) = .int .i64 (i : Int) from p1); have hsl := HS.out.1; clear hout p0 p1; go_step; exact hK _ _ rfl hG (Below.refl _ _)
      · intro _ _ a w' hG hout hpre K hK; obtain ⟨p0, _⟩ := hpre; have q47 := ev_of (show a.eval (.tmp 47) = .slice (some ⟨g, 0, none⟩) i c from p0); clear hout p0; go_step; exact hK _ _ rfl hG (Below.refl _ _)
      · intro _ _ a w' hG hout hpre K hK; have q3 := ev_of ((hout 3 rfl).trans (show _ = .slice (some ⟨q, 0, none⟩) 1 1 from rfl)); clear hout hpre; go_step; exact hK _ _ rfl hG (Below.refl _ _)
      · intro _ _ a w' hG hout hpre K hK; obtain ⟨p0, _⟩ := hpre; have q49 := ev_of (show a.eval (.tmp 49) = .slice (some ⟨q, 0, none⟩) 1 1 from p0); clear hout p0; go_step; exact hK _ _ rfl hG (Below.refl _ _)
      · intro _ _ a w' hG hout hpre K hK; obtain ⟨p0, p1, _⟩ := hpre; have q48 := ev_of (show a.eval (.tmp 48) = .int .i64 (i : Int) from p0); have q50 := ev_of (show a.eval (.tmp 50) = .int .i64 (1 : Int) from p1); have hl := HLt.out; clear hout p0 p1; go_step; exact hK _ _ rfl hG (Below.refl _ _)
      · intro _ _ a w' hG hout hpre K hK; have q0 := ev_of ((hout 0 rfl).trans (show _ = .slice (some ⟨g, 0, none⟩) n c from rfl)); clear hout hpre; go_step; exact hK _ _ rfl hG (Below.refl _ _)
      · intro _ _ a w' hG hout hpre K hK; have q2 := ev_of ((hout 2 rfl).trans (show _ = .int .i64 (j : Int) from rfl)); clear hout hpre; go_step; exact hK _ _ rfl hG (Below.refl _ _)
      · intro _ _ a w' hG hout hpre K hK; obtain ⟨p0, p1, _⟩ := hpre; have q52 := ev_of (show a.eval (.tmp 52) = .slice (some ⟨g, 0, none⟩) n c from p0); have q53 := ev_of (show a.eval (.tmp 53) = .int .i64 (j : Int) from p1); have hsl := HS.out.2.1; clear hout p0 p1; go_step; exact hK _ _ rfl hG (Below.refl _ _)
      · intro _ _ a w' hG hout hpre K hK; obtain ⟨p0, _⟩ := hpre; have q54 := ev_of (show a.eval (.tmp 54) = .slice (some ⟨g, j * 8, none⟩) (n - j) (c - j) from p0); clear hout p0; go_step; exact hK _ _ rfl hG (Below.refl _ _)
      · intro _ _ a w' hG hout hpre K hK; obtain ⟨p0, p1, _⟩ := hpre; have q51 := ev_of (show a.eval (.tmp 51) = .int .i64 ((i : Int) + 1) from p0); have q55 := ev_of (show a.eval (.tmp 55) = .int .i64 ((n - j : Nat) : Int) from p1); obtain ⟨hl1, hl2, hl3, hl4⟩ := HLt.out; have hT := HT.out.2.2.1; have hT2 := HT.out.2.1; clear hout p0 p1; go_step; exact hK _ _ rfl hG (Below.refl _ _)
      · intro _ _ a w' hG hout hpre K hK; obtain ⟨p0, _⟩ := hpre; have q56 := ev_of (show a.eval (.tmp 56) = .int .i64 (T : Int) from p0); clear hout p0; go_step; exact hK _ _ rfl hG (Below.refl _ _)
    · intro vs w2 hG hlen hV
      match vs, hlen, hV with
      | [v0, v1, v2, v3, v4, v5, v6, v7, v8, v9, v10, v11, v12], _, hV =>
        obtain rfl : v12 = .int .i64 (T : Int) := (hV 12 10 v12 rfl rfl); clear hV; simp only [putsL, List.tail_cons, List.headD_cons]; simp only [Act.put, List.setIfInBounds_toArray, List.set_cons_succ, List.set_cons_zero]
        have HW2 : Hid (w.grownBy w2 none ∧ OwnP w2 base (.slice (some ⟨g, 0, none⟩) n c) l ∧ RowP w2 q y) := by
          have hgr : w.grownBy w2 none := ⟨hG.os, hG.tape, hG.output, hG.size, fun k hk _ => hG.block k hk⟩; exact Lib.hid ⟨hgr, HO.out.1.far hG, HO.out.2.1.below hG⟩
        clear hG; obtain ⟨hsTi, hscl, hsT, hTc, hle⟩ := HR.out
        go_upto_region 17 with (fail)
        refine wp_region_lit ?_
        iterate 12 go_step
        refine wpList_copy_ownP rfl (.tmp 95) (.tmp 96) rfl (M := [y]) (i := i) (k := 1) HW2.out.2.1 HO.out.2.2.1 rfl (by have := HLt.out; omega) (T - i) (c - i) ⟨q, 0, none⟩ 1 1 (Nat.min_eq_left (by have := HT.out; omega)).symm (fun k v hk => by
          rw [addr_add, Nat.zero_add]
          exact HW2.out.2.2.cell k (by simpa [cellsLP] using hk)) rfl rfl ?_
        intro w3 j1 j2; have H3 : Hid (OwnP w3 base (.slice (some ⟨g, 0, none⟩) n c) (l.take i ++ [y] ++ l.drop (i + 1)) ∧ w.grownBy w3 (some g)) := Lib.hid ⟨j1, grown_two (grown_none HW2.out.1 _) j2⟩; clear j1 j2; have HR2 := Lib.hid hscl; clear hsTi hscl hsT hTc hle
        go_upto_region 18 with (fail)
        have HG3 : Hid (RpG w base g n c i j l y 0 w3.drew) := by
          have hd := (Below.refl w3.heap.size w3).drew; exact Lib.hid ⟨H3.out.1.far hd, grown_far H3.out.2 hd⟩
        refine wp_region_skip_frame (fun i => ([] : List Nat).contains i) (by kernel_rfl) [none, none, none, none, none, none, none, none, none, some 0] [9] (V4 ((Value.slice (some ⟨g, 0, none⟩) T c) :: (Value.int .i64 (i : Int)) :: (Value.slice (some ⟨q, 0, none⟩) 1 1) :: (Value.int .i64 (1 : Int)) :: (Value.int .i64 ((i : Int) + 1)) :: (Value.slice (some ⟨g, (i + 1) * 8, none⟩) (n - j) (c - (i + 1))) :: (Value.slice (some ⟨g, 0, none⟩) n c) :: (Value.int .i64 (j : Int)) :: (Value.slice (some ⟨g, j * 8, none⟩) (n - j) (c - j)) :: goInt ((n - j : Nat) : Int) :: ([] : List Value)) 99 (fun _ _ _ => True) 99 (fun _ _ _ => True) 99 (fun _ _ _ => True) 99 (fun _ _ _ => True)) (RpG w base g n c i j l y) (fun w w' => Below w.heap.size w w') (V4_le _ (fun _ _ _ _ _ h => h) (fun _ _ _ _ _ h => h) (fun _ _ _ _ _ h => h) (fun _ _ _ _ _ h => h)) (by kernel_rfl) (by kernel_rfl) (by kernel_rfl) HG3.out (fun _ => ⟨rfl, rfl, rfl, rfl, rfl, rfl, rfl, rfl, rfl, rfl, trivial⟩) (fun _ h => by simp at h) ?_ ?_
        · refine ⟨?_, ?_, ?_, ?_, ?_, ?_, ?_, ?_, ?_, ?_, trivial⟩
          · intro _ _ a w' hG hout hpre K hK; have q12 := ev_of ((hout 12 rfl).trans (show _ = .slice (some ⟨g, 0, none⟩) T c from rfl)); clear hout hpre; go_step; exact hK _ _ rfl hG (Below.refl _ _)
          · intro _ _ a w' hG hout hpre K hK; have q1 := ev_of ((hout 1 rfl).trans (show _ = .int .i64 (i : Int) from rfl)); clear hout hpre; go_step; exact hK _ _ rfl hG (Below.refl _ _)
          · intro _ _ a w' hG hout hpre K hK; have q3 := ev_of ((hout 3 rfl).trans (show _ = .slice (some ⟨q, 0, none⟩) 1 1 from rfl)); clear hout hpre; go_step; exact hK _ _ rfl hG (Below.refl _ _)
          · intro _ _ a w' hG hout hpre K hK; obtain ⟨p0, _⟩ := hpre; have q100 := ev_of (show a.eval (.tmp 100) = .slice (some ⟨q, 0, none⟩) 1 1 from p0); clear hout p0; go_step; exact hK _ _ rfl hG (Below.refl _ _)
          · intro _ _ a w' hG hout hpre K hK; obtain ⟨p0, p1, _⟩ := hpre; have q99 := ev_of (show a.eval (.tmp 99) = .int .i64 (i : Int) from p0); have q101 := ev_of (show a.eval (.tmp 101) = .int .i64 (1 : Int) from p1); have hl := HLt.out; clear hout p0 p1; go_step; exact hK _ _ rfl hG (Below.refl _ _)
          · intro _ _ a w' hG hout hpre K hK; obtain ⟨p0, p1, _⟩ := hpre; have q98 := ev_of (show a.eval (.tmp 98) = .slice (some ⟨g, 0, none⟩) T c from p0); have q102 := ev_of (show a.eval (.tmp 102) = .int .i64 ((i : Int) + 1) from p1); have hsl := HS.out.2.2; clear hout p0 p1; go_step; exact hK _ _ rfl hG (Below.refl _ _)
          · intro _ _ a w' hG hout hpre K hK; have q0 := ev_of ((hout 0 rfl).trans (show _ = .slice (some ⟨g, 0, none⟩) n c from rfl)); clear hout hpre; go_step; exact hK _ _ rfl hG (Below.refl _ _)
          · intro _ _ a w' hG hout hpre K hK; have q2 := ev_of ((hout 2 rfl).trans (show _ = .int .i64 (j : Int) from rfl)); clear hout hpre; go_step; exact hK _ _ rfl hG (Below.refl _ _)
          · intro _ _ a w' hG hout hpre K hK; obtain ⟨p0, p1, _⟩ := hpre; have q104 := ev_of (show a.eval (.tmp 104) = .slice (some ⟨g, 0, none⟩) n c from p0); have q105 := ev_of (show a.eval (.tmp 105) = .int .i64 (j : Int) from p1); have hsl := HS.out.2.1; clear hout p0 p1; go_step; exact hK _ _ rfl hG (Below.refl _ _)
          · intro _ a w' hG hout hpre K hK; obtain ⟨p0, p1, _⟩ := hpre; have r103 := (show a.eval (.tmp 103) = .slice (some ⟨g, (i + 1) * 8, none⟩) (n - j) (c - (i + 1)) from p0); have r106 := (show a.eval (.tmp 106) = .slice (some ⟨g, j * 8, none⟩) (n - j) (c - j) from p1); obtain ⟨hO2, hgr⟩ := (show OwnP w' base (.slice (some ⟨g, 0, none⟩) n c) (l.take i ++ [y] ++ l.drop (i + 1)) ∧ w.grownBy w' (some g) from hG); obtain ⟨b1, b2, b3, b4⟩ := HLt.out; obtain ⟨t1, t2, t3, t4⟩ := HT.out; have hN := HO.out.2.2.1
            have hlen : n = (l.take i ++ [y] ++ l.drop (i + 1)).length := by rw [List.length_append, HL1.out, List.length_drop, ← hN]; omega
            have hdj : (l.take i ++ [y] ++ l.drop (i + 1)).drop j = l.drop j := by
              rw [List.drop_append, List.drop_eq_nil_of_le (show (l.take i ++ [y]).length ≤ j by rw [HL1.out]; omega), HL1.out, List.nil_append, List.drop_drop]
              congr 1
              omega
            refine wp_copy_ownP (.tmp 103) (.tmp 106) rfl (M := l.drop j) (i := i + 1) (k := n - j) hO2 hlen (by rw [List.length_drop, ← hN]) (by omega) (n - j) (c - (i + 1)) ⟨g, j * 8, none⟩ (n - j) (c - j) (Nat.min_self _).symm (fun k v hk => ?_) r103 r106 (fun w4_ m1 m2 => ?_)
            · have h := hO2.cellsFrom hlen (show j ≤ n by omega) k v
              rw [hdj] at h; exact h hk
            · exact hK _ _ rfl ⟨m1, grown_two hgr m2⟩ (V4_keep (.inr fun _ h => h) (.inr fun _ h => h) (.inr fun _ h => h) (.inr fun _ h => h))
        · intro vs w4_ hG hlen hV
          match vs, hlen, hV with
          | [v0, v1, v2, v3, v4, v5, v6, v7, v8, v9], _, hV =>
            clear hV; have hG1 : OwnP w4_ base (.slice (some ⟨g, 0, none⟩) n c) ((l.take i ++ [y] ++ l.drop (i + 1)).take (i + 1) ++ l.drop j ++ (l.take i ++ [y] ++ l.drop (i + 1)).drop (i + 1 + (n - j))) ∧ w.grownBy w4_ (some g) := hG
            have H4 : Hid (OwnP w4_ base (.slice (some ⟨g, 0, none⟩) n c) (l.take i ++ [y] ++ l.drop j ++ (l.take i ++ [y] ++ l.drop (i + 1)).drop T) ∧ w.grownBy w4_ (some g) ∧ n = (l.take i ++ [y] ++ l.drop j ++ (l.take i ++ [y] ++ l.drop (i + 1)).drop T).length ∧ (l.take i ++ [y] ++ l.drop j ++ (l.take i ++ [y] ++ l.drop (i + 1)).drop T).take T = l.take i ++ [y] ++ l.drop j) := by
              obtain ⟨b1, b2, b3, b4⟩ := HLt.out; obtain ⟨t1, t2, t3, t4⟩ := HT.out; have hN := HO.out.2.2.1
              have hl2 : (l.take i ++ [y] ++ l.drop j).length = T := by rw [List.length_append, HL1.out, List.length_drop, ← hN]; omega
              have h := hG1.1; rw [List.take_left' HL1.out, ← t1] at h
              exact Lib.hid ⟨h, hG1.2, by rw [List.length_append, hl2, List.length_drop, List.length_append, HL1.out, List.length_drop, ← hN]; omega, List.take_left' hl2⟩
            clear hG hG1; simp only [putsL, List.tail_cons, List.headD_cons]; simp only [Act.put, List.setIfInBounds_toArray, List.set_cons_succ, List.set_cons_zero]; have hscl := HR2.out
            go_upto_region 19 with (fail)
            refine wp_region_lit ?_
            iterate 9 go_step
            refine wpList_clear_ownP rfl (.tmp 110) rfl (i := T) H4.out.1 H4.out.2.2.1 HT.out.2.1 (by rw [← Ho.out]; rfl) ?_
            intro w5 m1 m2
            have HZ : Hid (P (.returned (.slice (some ⟨g, 0, none⟩) T c)) w5) := by
              rw [H4.out.2.2.2] at m1; exact Lib.hid (HYes.out T w5 m1 (grown_two H4.out.2.1 m2))
            clear m1 m2 hscl; go_wp2_with (fail); exact HZ.out
set_option maxRecDepth 100000 in
set_option maxHeartbeats 2000000 in
theorem replaceP_ins (w : World) (base i q : Nat) (v : Value) (l : List PaneV) (y : PaneV) (hO : OwnP w base v l) (hq : RowP w q y) (hqv : v.ownBlock ≠ some q) (hi : i ≤ l.length) (hb : base ≤ w.heap.size) (hn : l.length + 1 ≤ 1000000) :
    Calls Tryz.prog 66 #[v, .int .i64 (i : Int), .int .i64 (i : Int), .slice (some ⟨q, 0, none⟩) 1 1] w (InsEnd w base v (l.take i ++ [y] ++ l.drop i)) := by
  have HC := Lib.hid (insertP_all w base i q v l y hO hq hqv hi hb hn); obtain ⟨P, hP⟩ : ∃ P, P = InsEnd w base v (l.take i ++ [y] ++ l.drop i) := ⟨_, rfl⟩
  have HPo : Hid (∀ v' w', OwnP w' base v' (l.take i ++ [y] ++ l.drop i) → w.grownBy w' v.ownBlock → (v'.ownBlock = v.ownBlock ∨ v'.ownBlock = some w.heap.size) → P (.returned v') w') := Lib.hid (fun v' w' h1 h2 h3 => by rw [hP]; exact ⟨v', rfl, h1, h2, h3⟩)
  rw [← hP]
  rcases hO.shape with ⟨rfl, hl⟩ | ⟨g, c, rfl, hc⟩
  · obtain rfl : i = 0 := by rw [hl] at hi; simpa using hi
    have hs : ∀ w', (Instr.slice 27 (.slice none 0 0) (some (.int .i64 0)) (some (.int .i64 0)) none).run Tryz.prog w' = .ok (.slice none 0 0) w' := fun w' => by
      simp [Instr.slice, run_underlying Tryz.underlying27, Instr.sliceBounds, run_sliceBound, show ∀ w, (sizeOf 55).run Tryz.prog w = .ok 8 w from Tryz.sizeOf55]
    unfold nilV at HC ⊢; rw [show ((0 : Nat) : Int) = 0 from rfl] at HC ⊢; clear hP hO hq hqv hi hb hn hl
    go_enter Tryz.func66, Tryz.ntmps66
    go_wp2_with (fail); refine HC.out.mono ?_; rintro e w' ⟨v', rfl, h1, h2, h3⟩; have HZ := Lib.hid (HPo.out v' w' h1 h2 h3); have hsh := h1.shape; clear h1 h2 h3; dsimp only
    rcases hsh with ⟨rfl, h⟩ | ⟨g', c', rfl, _⟩
    · simp at h
    go_wp2_with (fail); exact HZ.out
  · obtain ⟨n, hN⟩ : ∃ n, n = l.length := ⟨_, rfl⟩; rw [← hN] at HC hc hi ⊢
    obtain ⟨o0, ho⟩ : ∃ o, o = (if c = i then 0 else i * 8) := ⟨_, rfl⟩
    have hs : ∀ w', (Instr.slice 27 (.slice (some ⟨g, 0, none⟩) n c) (some (.int .i64 (i : Int))) (some (.int .i64 (i : Int))) none).run Tryz.prog w' = .ok (.slice (some ⟨g, o0, none⟩) (i - i) (c - i)) w' := fun w' => by
      rw [ho]; exact run_slicePij w' g n c i i (Nat.le_refl _) hi hc
    have e1 : ((i : Int) == (i : Int)) = true := by simp
    clear hP hO hq hqv hi hb hn ho hN hc
    go_enter Tryz.func66, Tryz.ntmps66
    go_wp2_with (fail); refine HC.out.mono ?_; rintro e w' ⟨v', rfl, h1, h2, h3⟩; have HZ := Lib.hid (HPo.out v' w' h1 h2 h3); have hsh := h1.shape; clear h1 h2 h3; dsimp only
    rcases hsh with ⟨rfl, h⟩ | ⟨g', c', rfl, _⟩
    · simp at h
    go_wp2_with (fail); exact HZ.out
theorem replaceP_any (w : World) (base i j q : Nat) (v : Value) (l : List PaneV) (y : PaneV) (hO : OwnP w base v l) (hq : RowP w q y) (hqv : v.ownBlock ≠ some q) (hij : i ≤ j) (hj : j ≤ l.length) (hb : base ≤ w.heap.size) (hn : l.length + 1 ≤ 1000000) :
    Calls Tryz.prog 66 #[v, .int .i64 (i : Int), .int .i64 (j : Int), .slice (some ⟨q, 0, none⟩) 1 1] w (InsEnd w base v (l.take i ++ [y] ++ l.drop j)) := by
  by_cases he : i = j
  · subst he; exact replaceP_ins w base i q v l y hO hq hqv hj hb hn
  · rcases hO.shape with ⟨rfl, hl⟩ | ⟨g, c, rfl, hc⟩
    · rw [hl] at hj; simp at hj; omega
    · exact replaceP_at w base g c i j q l y hO hq (fun e => hqv (by rw [e]; rfl)) (by omega) hj hn
end Go.Proofs.YtjeeghafachebaaGreat
