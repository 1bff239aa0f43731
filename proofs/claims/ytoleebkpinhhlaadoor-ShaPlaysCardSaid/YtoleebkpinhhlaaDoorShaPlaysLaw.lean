/-
  The contract of the statement ShaPlays.
-/
import Derived.Test.YtoleebkpinhhlaaDoorRefSum
import Derived.Test.YtoleebkpinhhlaaDoorShaSumF
import Derived.Deep.RegionHeld3
namespace Go.Proofs.YtoleebkpinhhlaaDoor
open Go.RowKit

/-- One act: its kind and its bytes. -/
structure OpP where
  kind : Int
  part : Part
def OpsAt (w : World) (a : Option Addr) (l : List OpP) : Prop :=
  l = [] ∨ ∃ b o, a = some ⟨b, o, none⟩ ∧ ∀ i x, l[i]? = some x → w.cell? ⟨b, o + i * 2, none⟩ = some (.int .i64 x.kind) ∧ w.cell? ⟨b, o + i * 2 + 1, none⟩ = some x.part.val
def PlayRel (wT : World) (K : Nat) (h s i : Value) (wr : World) : Prop :=
  ∃ (t b : Nat) (c : Array Value) (l : List (BitVec 8)), t ≤ K ∧ i = .int .i64 (t : Int) ∧ h = .pointer (some ⟨b, 0, none⟩) ∧ s = Sv l ∧ l.length ≤ 1500 ∧ wT.heap.size ≤ b ∧
    wr.heap[b]? = some (.cells c 38 (0, 0)) ∧ HashW c l ∧ Below wT.heap.size wT wr
theorem run_conv_i64_u64 (w : World) (k : Int) : (convert 3 41 (.int .i64 k)).run Tryd.prog w = .ok (.int .u64 (IntKind.u64.wrap k)) w := by
  simp [convert, Conv.intToInt, run_underlying Tryd.underlying3, run_underlying Tryd.underlying41]
theorem below_own {B : Nat} {wT w w' : World} {b : Nat} (hB : Below B wT w) (hb : B ≤ b) (hBs : B ≤ w.heap.size) (hg : w.grownBy w' (some b)) : Below B wT w' :=
  hB.trans ⟨hg.os, hg.tape, hg.output, hg.size, fun k hk => hg.block k (by omega) (by simp; omega)⟩

theorem Src.srcP {w : World} {b : Nat} {a : Option Addr} {n : Nat} {m : List (BitVec 8)} (h : Src w b a n m 0) : SrcP w a n m := by
  rcases h with h | ⟨ab, off, ha, _, hc⟩
  · exact .inl h
  · exact .inr ⟨ab, off, ha, fun i hi => by have := hc i hi; rwa [Nat.zero_add] at this⟩
theorem Src.below2 {w w' : World} {b : Nat} {a : Option Addr} {n : Nat} {m : List (BitVec 8)} {k : Nat} (h : Src w b a n m k) (hB : Below w.heap.size w w') : Src w' b a n m k := h.belowS hB
def WriteEndN (w : World) (b M : Nat) (l m : List (BitVec 8)) (e : Ending) (w' : World) : Prop :=
  e = .returned (.int .i64 (M : Int)) ∧ ∃ c', w'.heap[b]? = some (.cells c' 38 (0, 0)) ∧ HashS c' (l ++ m) ∧ w.grownBy w' (some b)
theorem lenN_any (w : World) (b n : Nat) (c : Array Value) (l : List (BitVec 8)) (hn : n = l.length) (hb : w.heap[b]? = some (.cells c 38 (0, 0))) (hH : HashW c l) :
    Calls Tryd.prog 14 #[.pointer (some ⟨b, 0, none⟩)] w fun e w' => e = .returned (.int .i64 (n : Int)) ∧ w' = w := by
  rw [hn]
  exact len_any w b c l hb hH
theorem neq_sum (l : List (BitVec 8)) : (∀ w, (Op.equalIn 10000 25 (.agg (ShaA l)) (.agg (ShaA l))).run Tryd.prog w = .ok true w) ∧ (∀ w, (binOp .neq 25 (.agg (ShaA l)) (.agg (ShaA l))).run Tryd.prog w = .ok (.bool false) w) ∧
    (∀ (o1 o2 : Operand) (w : World), (eqGuard .neq 25 o1 o2 (.agg (ShaA l)) (.agg (ShaA l))).run Tryd.prog w = .ok () w) := by
  have h1 := (eql_sum l l rfl).1
  refine ⟨h1, fun w => ?_, fun o1 o2 w => run_eqGuard_agg w .neq 25 o1 o2 _ _ (by kernel_rfl)⟩
  rw [run_neq_struct, h1]
  rfl
set_option maxRecDepth 100000 in
set_option maxHeartbeats 2000000 in
theorem shaPlays_any (w : World) (a : Option Addr) (cap : Nat) (ops : List OpP) (hP : OpsAt w a ops) (hok : ∀ p ∈ ops, p.part.ok w) (hT : Tables w) (hgl : 0 < w.heap.size ∧ 1 < w.heap.size)
    (hps : ops.length ≤ 9223372036854775807) (hbig : ∀ p ∈ ops, p.part.m.length ≤ 140737488355328) :
    Calls Tryd.prog 4 #[.slice a ops.length cap] w (Below0 w (.bool true)) := by
  have hz := zero_hash.1
  obtain ⟨K, hK⟩ : ∃ K, K = ops.length := ⟨_, rfl⟩
  rw [← hK] at hps ⊢
  have HK := Lib.hid hK
  have HP := Lib.hid (And.intro hP (And.intro hok (And.intro hT (And.intro hgl hbig))))
  clear hK hP hok hT hgl hbig
  go_enter Tryd.func4, Tryd.ntmps4
  go_wp2_with (fail)
  refine (first_any w HP.out.2.2.1 HP.out.2.2.2.1).mono ?_
  rintro e w1 ⟨rfl, hB1⟩
  have HB := Lib.hid hB1
  clear hB1
  dsimp only
  go_wp2_with (fail)
  refine (table_any w1).mono ?_
  rintro e wT ⟨kv, sv, rfl, hk, hs, hB⟩
  have hR := refTabs_of hk hs
  have hBT : Below w.heap.size w wT := HB.out.trans (hB.mono HB.out.size)
  have HT := Lib.hid (And.intro hR hBT)
  clear hk hs hB hR hBT HB
  dsimp only
  go_wp2_with (fail)
  obtain ⟨w0, hw0⟩ : ∃ w0, w0 = wT.alloc (.cells zeroHash 38) := ⟨_, rfl⟩
  rw [← hw0]
  have hb0 : w0.heap[wT.heap.size]? = some (.cells zeroHash 38 (0, 0)) := by rw [hw0]; exact heap_alloc_new wT _
  have hB0 : Below wT.heap.size wT w0 := by rw [hw0]; exact (Below.refl _ wT).alloc (Nat.le_refl _) _
  have H0 := Lib.hid (And.intro hb0 hB0)
  clear hb0 hB0 hw0 hz
  go_loopw [5, 6, 21] (PlayRel wT K) (fun _ _ i _ => K - (intOf i).toNat)
  case atStart => exact ⟨0, wT.heap.size, zeroHash, [], by omega, rfl, rfl, rfl, by simp, Nat.le_refl _, H0.out.1, zeroHash_is, H0.out.2⟩
  case round =>
    obtain ⟨t, b, c, l, ht, rfl, rfl, rfl, hl, hbT, hb, hH, hB⟩ := hrel
    have lenl : ∀ w ty, (Builtin.len_ #[9] ty #[Sv l]).run Tryd.prog w = .ok (.int .i64 (l.length : Int)) w := fun w ty => run_len_Sv w ty l
    by_cases hlt : t < K
    · obtain ⟨x, hx⟩ : ∃ x, ops[t]? = some x := ⟨ops[t]'(by rw [← HK.out]; exact hlt), List.getElem?_eq_getElem (by rw [← HK.out]; exact hlt)⟩
      have hxm : x ∈ ops := List.mem_of_getElem? hx
      rcases HP.out.1 with hP | ⟨pb, po, rfl, hP⟩
      · rw [hP] at hx
        cases hx
      have i0 : (0 : Int) ≤ (t : Int) ∧ (t : Int) < (K : Int) := by omega
      obtain ⟨h1, h2⟩ := hP t x hx
      have hBw := HT.out.2.trans (hB.mono HT.out.2.size)
      have d1 : wr.cell? ⟨pb, po + t * 2, none⟩ = some (.int .i64 x.kind) := (hBw.cell (p := ⟨pb, po + t * 2, none⟩) (block_lt_of_cell h1)).trans h1
      have d2 : wr.cell? ⟨pb, po + t * 2 + 1, none⟩ = some (.slice x.part.a x.part.m.length x.part.cap) := (hBw.cell (p := ⟨pb, po + t * 2 + 1, none⟩) (block_lt_of_cell h2)).trans h2
      have hxo : x.part.ok wT := (HP.out.2.1 x hxm).below HT.out.2
      obtain ⟨κ, hκ⟩ : ∃ κ, κ = x.kind := ⟨_, rfl⟩
      obtain ⟨pa, hpa⟩ : ∃ y, y = x.part.a := ⟨_, rfl⟩
      obtain ⟨m, hm⟩ : ∃ y, y = x.part.m := ⟨_, rfl⟩
      obtain ⟨pc, hpc⟩ : ∃ y, y = x.part.cap := ⟨_, rfl⟩
      have hsrc : m.length ≤ pc ∧ pc ≤ 9223372036854775807 ∧ SrcP wT pa m.length m := by rw [hm, hpc, hpa]; exact hxo
      rw [← hκ] at d1
      rw [← hpa, ← hm, ← hpc] at d2
      obtain ⟨L, hL⟩ : ∃ L, L = l.length := ⟨_, rfl⟩
      obtain ⟨M, hM⟩ : ∃ M, M = m.length := ⟨_, rfl⟩
      rw [← hM] at d2
      rw [← hL] at lenl
      have HX := Lib.hid (And.intro hsrc (And.intro hL (And.intro hM (And.intro hl (And.intro hbT (And.intro hb (And.intro hH hB)))))))
      have hMm : M ≤ 140737488355328 := by rw [hM, hm]; exact HP.out.2.2.2.2 x hxm
      have hLl : L ≤ 1500 := by omega
      clear hx hxm hP h1 h2 hBw hxo hκ hpa hm hpc hsrc hL hM hl hbT hb hH hB
      go_upto_region 10 with (fail)
      obtain ⟨wo, hwo⟩ : ∃ wo, wo = wr.alloc (.cells #[.int .i64 κ, .slice pa M pc] 40) := ⟨_, rfl⟩
      rw [← hwo]
      obtain ⟨ob, hob⟩ : ∃ ob, ob = wr.heap.size := ⟨_, rfl⟩
      rw [← hob]
      have hobl : wo.heap[ob]? = some (.cells #[.int .i64 κ, .slice pa M pc] 40 (0, 0)) := by rw [hwo, hob]; exact heap_alloc_new wr _
      have co0 : wo.cell? ⟨ob, 0, none⟩ = some (.int .i64 κ) := by rw [cell_of_row _ _ 0 _ _ _ hobl]; rfl
      have co1 : wo.cell? ⟨ob, 1, none⟩ = some (.slice pa M pc) := by rw [cell_of_row _ _ 1 _ _ _ hobl]; rfl
      have hBo : Below wr.heap.size wr wo := by rw [hwo]; exact (Below.refl _ wr).alloc (Nat.le_refl _) _
      have HO := Lib.hid (And.intro hBo hob)
      clear hwo hob hobl hBo d1 d2
      by_cases h30 : 30 ≤ t
      · have h30' : (30 : Int) ≤ (t : Int) := by omega
        go_wp2_with (fail)
        go_ret
        refine ⟨rfl, ?_⟩
        have h1 := HX.out.2.2.2.2.2.2.2
        exact (HT.out.2.trans (h1.mono HT.out.2.size)).trans (HO.out.1.mono (Nat.le_trans HT.out.2.size h1.size))
      have h30' : ¬ (30 : Int) ≤ (t : Int) := by omega
      by_cases h15 : 1500 < L + M
      · have h15' : (1500 : Int) < (L : Int) + (M : Int) := by omega
        go_wp2_with (fail)
        go_ret
        refine ⟨rfl, ?_⟩
        have h1 := HX.out.2.2.2.2.2.2.2
        exact (HT.out.2.trans (h1.mono HT.out.2.size)).trans (HO.out.1.mono (Nat.le_trans HT.out.2.size h1.size))
      have h15' : ¬ (1500 : Int) < (L : Int) + (M : Int) := by omega
      obtain ⟨u, hu⟩ : ∃ u : Nat, IntKind.u64.wrap κ = (u : Int) := ⟨(IntKind.u64.wrap κ).toNat, by
        have : 0 ≤ IntKind.u64.wrap κ := by
          simp [IntKind.wrap, IntKind.bits, IntKind.signed]
          omega
        omega⟩
      have hcv : ∀ w, (convert 3 41 (.int .i64 κ)).run Tryd.prog w = .ok (.int .u64 (u : Int)) w := fun w => by rw [run_conv_i64_u64, hu]
      clear hu
      have h4 : u % 4 = 0 ∨ u % 4 = 1 ∨ u % 4 = 2 ∨ u % 4 = 3 := by omega
      obtain ⟨hsrc, hL, hM, hl, hbT, hb, hH, hB⟩ := HX.out
      have hbs := (Array.getElem?_eq_some_iff.mp hb).1
      have hbo : wo.heap[b]? = some (.cells c 38 (0, 0)) := (HO.out.1.block b hbs).trans hb
      have hBo : Below wT.heap.size wT wo := hB.trans (HO.out.1.mono hB.size)
      have hbob : b < ob := by rw [HO.out.2]; exact hbs
      have hobs : ob < wo.heap.size := block_lt_of_cell co0
      have hTo : Tables wo := HP.out.2.2.1.below (HT.out.2.trans (hBo.mono HT.out.2.size))
      have hgo : 0 < b ∧ 1 < b := by have := HT.out.2.size; have := HP.out.2.2.2.1; omega
      have hsrcb : Src wo b pa m.length m 0 := (hsrc.2.2.src hbT).below2 hBo
      have hsrco := hsrcb.srcP
      have hbw : b < wo.heap.size := by omega
      have hlm : m.length ≤ pc := hsrc.1
      have hpc2 : pc ≤ 9223372036854775807 := hsrc.2.1
      have HS := Lib.hid (And.intro hbo (And.intro hBo (And.intro hTo (And.intro hsrco (And.intro hH (And.intro hL (And.intro hM (And.intro hl hbT))))))))
      clear hsrc hL hM hl hbT hb hH hB hbs hbo hBo hTo hsrco HX HO hlt h15 h30
      rcases h4 with h4 | h4 | h4 | h4
      · have r1 : (u : Int) % 4 = 0 := by omega
        have hwr : Calls Tryd.prog 10 #[.pointer (some ⟨b, 0, none⟩), .slice pa M pc] wo.drew (WriteEndN wo.drew b M l m) := by
          obtain ⟨hbo, hBo, hTo, hsrco, hH, hL, hM, hl, hbT⟩ := HS.out
          have hD : Below wo.heap.size wo wo.drew := (Below.refl _ wo).drew
          have hsr : Src wo.drew b pa m.length m 0 := hsrcb.belowS hD
          have := write_any wo.drew b c l m pa pc hbo hH (hTo.below hD) (by omega) (by omega) hlm hpc2 hsr (by omega)
          rw [← hM] at this
          exact this.mono fun e w' ⟨h1, h2⟩ => ⟨by rw [h1, hM], h2⟩
        have hcs : ∀ w, wo.grownBy w (some b) → (convert 24 9 (.slice pa M pc)).run Tryd.prog w = .ok (Sv m) w := fun w hg => by
          have h := run_conv_str w pa pc m ((hsrcb.grown hg).srcP)
          rwa [← HS.out.2.2.2.2.2.2.1] at h
        have hadd : ∀ w, (binOp .add 9 (Sv l) (Sv m)).run Tryd.prog w = .ok (Sv (l ++ m)) w := fun w => run_add_Sv w l m (by have h1 := HS.out.2.2.2.2.2.1; have h2 := HS.out.2.2.2.2.2.2.1; omega)
        have lenlm : ∀ w ty, (Builtin.len_ #[9] ty #[Sv (l ++ m)]).run Tryd.prog w = .ok (.int .i64 ((L + M : Nat) : Int)) w := fun w ty => by rw [run_len_Sv w ty (l ++ m), List.length_append, ← HS.out.2.2.2.2.2.1, ← HS.out.2.2.2.2.2.2.1]
        have HWR := Lib.hid hwr
        have HCS := Lib.hid hcs
        clear hwr h4 hcs
        go_wp2_with (fail)
        go_region_held3 (fun w' => w'.cell? ⟨ob, 1, none⟩ = some (.slice pa M pc))
          (first | go_keep | (exact hgz.cell co1 (by simp; omega)))
          (first | ((with_reducible refine (write_nil _ _).mono ?_); rintro e wz ⟨rfl, rfl⟩) | ((with_reducible refine HWR.out.mono ?_); rintro e wz ⟨rfl, cz, hbz, hHz, hgz⟩))
        have hgz2 : wo.grownBy wz (some b) := grown_trans (w1 := wo.drew) ⟨rfl, rfl, rfl, Nat.le_refl _, fun _ _ _ => rfl⟩ hgz
        have hcs := HCS.out wz hgz2
        have HZ : Hid (wz.heap[b]? = some (.cells cz 38 (0, 0)) ∧ HashW cz (l ++ m) ∧ (l ++ m).length ≤ 1500 ∧ wT.heap.size ≤ b ∧ Below wT.heap.size wT wz) := by
          obtain ⟨hbo, hBo, hTo, hsrco, hH, hL, hM, hl, hbT⟩ := HS.out
          exact ⟨hbz, hHz.weak, by rw [List.length_append]; omega, hbT, below_own hBo hbT hBo.size hgz2⟩
        have hLM : L + M = (l ++ m).length := by rw [List.length_append, ← HS.out.2.2.2.2.2.1, ← HS.out.2.2.2.2.2.2.1]
        have HLM := Lib.hid hLM
        have cz1 : wz.cell? ⟨ob, 1, none⟩ = some (.slice pa M pc) := hgz2.cell co1 (by simp; omega)
        clear hbz hHz hgz hgz2 hLM
        go_wp2_with (fail)
        refine (lenN_any _ b (L + M) cz (l ++ m) HLM.out HZ.out.1 HZ.out.2.1).mono ?_
        rintro e w' ⟨rfl, rfl⟩
        dsimp only
        go_wp2_with (fail)
        exact ⟨⟨t + 1, b, cz, l ++ m, by omega, by go_num, rfl, rfl, HZ.out.2.2.1, HZ.out.2.2.2.1, HZ.out.1, HZ.out.2.1, HZ.out.2.2.2.2⟩, by simp [intOf]; omega⟩
      · have r1 : (u : Int) % 4 = 1 := by omega
        clear h4
        go_wp2_with (fail)
        obtain ⟨hbo, hBo, hTo, hsrco, hH, hL, hM, hl, hbT⟩ := HS.out
        refine (sum_any wo (some ⟨b, 0, none⟩) l (.inr ⟨b, c, rfl, hbo, hH⟩) hTo (by omega) (by omega)).mono ?_
        rintro e w2 ⟨rfl, hB2⟩
        have HB2 := Lib.hid hB2
        clear hbo hBo hTo hsrco hH hL hM hl hbT hB2
        dsimp only
        go_wp2_with (fail)
        refine (refMixed_any w2 l (by have := HS.out.2.2.2.2.2.2.2.1; omega) kv sv (HT.out.1.below (HS.out.2.1.trans (HB2.out.mono HS.out.2.1.size)))).mono ?_
        rintro e w3 ⟨rfl, hB3⟩
        have hB23 := HB2.out.trans (hB3.mono HB2.out.size)
        have HZ : Hid (w3.heap[b]? = some (.cells c 38 (0, 0)) ∧ HashW c l ∧ l.length ≤ 1500 ∧ wT.heap.size ≤ b ∧ Below wT.heap.size wT w3) := by
          obtain ⟨hbo, hBo, hTo, hsrco, hH, hL, hM, hl, hbT⟩ := HS.out
          exact ⟨(hB23.block b hbw).trans hbo, hH, hl, hbT, hBo.trans (hB23.mono hBo.size)⟩
        obtain ⟨e1, e2, e3⟩ := neq_sum l
        clear hB23 hB3
        dsimp only
        go_wp2_with (fail)
        refine (lenN_any w3 b L c l HS.out.2.2.2.2.2.1 HZ.out.1 HZ.out.2.1).mono ?_
        rintro e w' ⟨rfl, rfl⟩
        dsimp only
        go_wp2_with (fail)
        exact ⟨⟨t + 1, b, c, l, by omega, by go_num, rfl, rfl, HZ.out.2.2.1, HZ.out.2.2.2.1, HZ.out.1, HZ.out.2.1, HZ.out.2.2.2.2⟩, by simp [intOf]; omega⟩
      · have r1 : (u : Int) % 4 = 2 := by omega
        clear h4
        go_wp2_with (fail)
        refine (clone_any wo b c l HS.out.1 HS.out.2.2.2.2.1).mono ?_
        rintro e w2 ⟨rfl, hw2⟩
        have HZ : Hid (w2.heap[wo.heap.size]? = some (.cells c 38 (0, 0)) ∧ HashW c l ∧ l.length ≤ 1500 ∧ wT.heap.size ≤ wo.heap.size ∧ Below wT.heap.size wT w2) := by
          obtain ⟨hbo, hBo, hTo, hsrco, hH, hL, hM, hl, hbT⟩ := HS.out
          rw [hw2]
          exact ⟨heap_alloc_new wo _, hH, hl, hBo.size, hBo.alloc hBo.size _⟩
        clear hw2
        dsimp only
        go_wp2_with (fail)
        refine (lenN_any w2 wo.heap.size L c l HS.out.2.2.2.2.2.1 HZ.out.1 HZ.out.2.1).mono ?_
        rintro e w' ⟨rfl, rfl⟩
        dsimp only
        go_wp2_with (fail)
        exact ⟨⟨t + 1, wo.heap.size, c, l, by omega, by go_num, rfl, rfl, HZ.out.2.2.1, HZ.out.2.2.2.1, HZ.out.1, HZ.out.2.1, HZ.out.2.2.2.2⟩, by simp [intOf]; omega⟩
      · have r1 : (u : Int) % 4 = 3 := by omega
        clear h4
        go_wp2_with (fail)
        refine (clone_any wo b c l HS.out.1 HS.out.2.2.2.2.1).mono ?_
        rintro e w2 ⟨rfl, hw2⟩
        have HC : Hid (w2.heap[wo.heap.size]? = some (.cells c 38 (0, 0)) ∧ w2.heap[b]? = some (.cells c 38 (0, 0)) ∧ Below wo.heap.size wo w2) := by
          obtain ⟨hbo, hBo, hTo, hsrco, hH, hL, hM, hl, hbT⟩ := HS.out
          rw [hw2]
          exact ⟨heap_alloc_new wo _, by rw [Below.heap_alloc _ _ _ hbw]; exact hbo, (Below.refl _ wo).alloc (Nat.le_refl _) _⟩
        have c1 : w2.cell? ⟨ob, 1, none⟩ = some (.slice pa M pc) := (HC.out.2.2.cell (p := ⟨ob, 1, none⟩) hobs).trans co1
        clear hw2
        dsimp only
        go_wp2_with (fail)
        have hwr : Calls Tryd.prog 10 #[.pointer (some ⟨b, 0, none⟩), .slice pa M pc] w2 (WriteEndN w2 b M l m) := by
          obtain ⟨hbo, hBo, hTo, hsrco, hH, hL, hM, hl, hbT⟩ := HS.out
          have := write_any w2 b c l m pa pc HC.out.2.1 hH (hTo.below HC.out.2.2) (by omega) (by omega) hlm hpc2 (hsrcb.belowS HC.out.2.2) (by omega)
          rw [← hM] at this
          exact this.mono fun e w' ⟨h1, h2⟩ => ⟨by rw [h1, hM], h2⟩
        have HWR := Lib.hid hwr
        clear hwr
        refine HWR.out.mono ?_
        rintro e wz ⟨rfl, cz, hbz, hHz, hgz⟩
        have HZ : Hid (wz.heap[wo.heap.size]? = some (.cells c 38 (0, 0)) ∧ HashW c l ∧ l.length ≤ 1500 ∧ wT.heap.size ≤ wo.heap.size ∧ Below wT.heap.size wT wz) := by
          obtain ⟨hbo, hBo, hTo, hsrco, hH, hL, hM, hl, hbT⟩ := HS.out
          have h1 := (Array.getElem?_eq_some_iff.mp HC.out.1).1
          exact ⟨by rw [hgz.block _ h1 (by simp; omega)]; exact HC.out.1, hH, hl, hBo.size, below_own (hBo.trans (HC.out.2.2.mono hBo.size)) hbT (Nat.le_trans hBo.size HC.out.2.2.size) hgz⟩
        clear hbz hHz hgz c1
        dsimp only
        go_wp2_with (fail)
        refine (lenN_any wz wo.heap.size L c l HS.out.2.2.2.2.2.1 HZ.out.1 HZ.out.2.1).mono ?_
        rintro e w' ⟨rfl, rfl⟩
        dsimp only
        go_wp2_with (fail)
        exact ⟨⟨t + 1, wo.heap.size, c, l, by omega, by go_num, rfl, rfl, HZ.out.2.2.1, HZ.out.2.2.2.1, HZ.out.1, HZ.out.2.1, HZ.out.2.2.2.2⟩, by simp [intOf]; omega⟩
    · obtain rfl : t = K := by omega
      obtain ⟨L, hL⟩ : ∃ L, L = l.length := ⟨_, rfl⟩
      rw [← hL] at lenl
      have hBw := HT.out.2.trans (hB.mono HT.out.2.size)
      have hTr : Tables wr := HP.out.2.2.1.below hBw
      have hgr : 0 < wr.heap.size ∧ 1 < wr.heap.size := by have := hBw.size; have := HP.out.2.2.2.1; omega
      have HX := Lib.hid (And.intro hb (And.intro hH (And.intro hTr (And.intro hgr (And.intro hBw (And.intro hB (And.intro hl hL)))))))
      clear hBw hTr hgr hb hH hB hl hL hbT lenl
      go_wp2_with (fail)
      refine (sum_any wr (some ⟨b, 0, none⟩) l (.inr ⟨b, c, rfl, HX.out.1, HX.out.2.1⟩) HX.out.2.2.1 HX.out.2.2.2.1 (by have := HX.out.2.2.2.2.2.2.1; omega)).mono ?_
      rintro e w2 ⟨rfl, hB2⟩
      have HB2 := Lib.hid hB2
      clear hB2
      dsimp only
      go_wp2_with (fail)
      refine (refMixed_any w2 l (by have := HX.out.2.2.2.2.2.2.1; omega) kv sv (HT.out.1.below (HX.out.2.2.2.2.2.1.trans (HB2.out.mono HX.out.2.2.2.2.2.1.size)))).mono ?_
      rintro e w3 ⟨rfl, hB3⟩
      have HB3 := Lib.hid (HB2.out.trans (hB3.mono HB2.out.size))
      clear hB3
      obtain ⟨e1, e2, e3⟩ := eql_sum l l rfl
      dsimp only
      go_wp2_with (fail)
      have hT3 : Tables w3 := HX.out.2.2.1.below HB3.out
      have hg3 : 0 < w3.heap.size ∧ 1 < w3.heap.size := by have := HB3.out.size; have := HX.out.2.2.2.1; omega
      refine (sum_any w3 none [] (.inl ⟨rfl, rfl⟩) hT3 hg3 (by simp)).mono ?_
      rintro e w4 ⟨rfl, hB4⟩
      have HB4 := Lib.hid (And.intro (HB3.out.trans (hB4.mono HB3.out.size)) (And.intro (hT3.below hB4) (show 0 < w4.heap.size ∧ 1 < w4.heap.size by have := hB4.size; omega)))
      clear hB4 hT3 hg3 e1 e2 e3
      dsimp only
      go_wp2_with (fail)
      refine (sumF_any w4 none 0 [] (.inl rfl) (fun p hp => by cases hp) HB4.out.2.1 HB4.out.2.2 (by simp [flat]) (by simp)).mono ?_
      rintro e w5 ⟨rfl, hB5⟩
      have HB5 := Lib.hid (HB4.out.1.trans (hB5.mono HB4.out.1.size))
      clear hB5
      obtain ⟨e1, e2, e3⟩ := eql_sum [] [] rfl
      rw [show flat [] = [] from rfl]
      dsimp only
      go_wp2_with (fail)
      refine (len_nil _).mono ?_
      rintro e w' ⟨rfl, rfl⟩
      dsimp only
      go_wp2_with (fail)
      refine (clone_nil _).mono ?_
      rintro e w' ⟨rfl, rfl⟩
      dsimp only
      go_wp2_with (fail)
      go_ret
      exact ⟨rfl, HX.out.2.2.2.2.1.trans (HB5.out.mono HX.out.2.2.2.2.1.size)⟩
end Go.Proofs.YtoleebkpinhhlaaDoor
