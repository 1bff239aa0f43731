/-
  The contract of the statement HmacPlays.
-/
import Derived.Test.YtmdacfbhfacniaaDoorHmacFirst
import Derived.Test.YtmdacfbhfacniaaDoorHmacRef
import Derived.Test.YtmdacfbhfacniaaDoorActs
import Derived.Deep.RegionHeld3
import Derived.Deep.CutBlock
namespace Go.Proofs.YtmdacfbhfacniaaDoor
open Go.RowKit

def HPlayRel (wN : World) (B0 b K : Nat) (ik ok : List (BitVec 8)) (s i : Value) (wr : World) : Prop :=
  ∃ (t : Nat) (l : List (BitVec 8)), t ≤ K ∧ i = .int .i64 (t : Int) ∧ s = Sv l ∧ l.length ≤ 400 ∧ MacAt B0 wr b ik ok l ∧ Below B0 wN wr
def HPlayCut (wN : World) (B0 b t : Nat) (ik ok : List (BitVec 8)) (s c : Value) (wx : World) : Prop :=
  ∃ l : List (BitVec 8), s = Sv l ∧ c = .int .i64 (t : Int) ∧ l.length ≤ 400 ∧ MacAt B0 wx b ik ok l ∧ Below B0 wN wx
def hplayVs (b : Nat) (ka : Option Addr) (L kc : Nat) (key l : List (BitVec 8)) : List StB :=
  [sbEq (.pointer (some ⟨b, 0, none⟩)), sbEq (.agg (ShaA (macL key l))), sbEq (.slice ka L kc), sbEq (Sv key), sbEq (Sv l), sbEq (.agg (ShaA (macL key l))), sbEq (.bool false)]

theorem eql_noughts : (∀ w, (Op.equalIn 10000 25 (.agg noughts32) (.agg noughts32)).run Tryd.prog w = .ok true w) ∧ (∀ w, (binOp .eql 25 (.agg noughts32) (.agg noughts32)).run Tryd.prog w = .ok (.bool true) w) ∧
    (∀ (o1 o2 : Operand) (w : World), (eqGuard .eql 25 o1 o2 (.agg noughts32) (.agg noughts32)).run Tryd.prog w = .ok () w) := by
  have hc : ∀ i < 32, noughts32[i]? = some (B 0) := fun i hi => by
    rw [noughts32, Array.getElem?_replicate, if_pos hi]
    rfl
  have h1 : ∀ w, (Op.equalIn 10000 25 (.agg noughts32) (.agg noughts32)).run Tryd.prog w = .ok true w := fun w => by
    have := run_equalIn_bytes 9998 25 5 32 Tryd.underlying25 Tryd.underlying5 Tryd.sizeOf5 Tryd.isAgg5 (fun _ => 0) (fun _ => 0) noughts32 noughts32 hc hc w
    rw [this]
    congr 1
  refine ⟨h1, fun w => ?_, fun o1 o2 w => run_eqGuard_agg w .eql 25 o1 o2 _ _ (by kernel_rfl)⟩
  rw [run_eql_struct, h1]
  rfl

set_option maxRecDepth 100000 in
set_option maxHeartbeats 2000000 in
theorem hmacPlays_any (w : World) (ka a : Option Addr) (kc cap : Nat) (key : List (BitVec 8)) (ops : List OpP) (hk : SrcP w ka key.length key) (hkc : key.length ≤ kc) (hkm : kc ≤ 9223372036854775807) (hP : OpsAt w a ops) (hok : ∀ p ∈ ops, p.part.ok w)
    (hT : Tables w) (hgl : 0 < w.heap.size ∧ 1 < w.heap.size) (hps : ops.length ≤ 9223372036854775807) (hbig : ∀ p ∈ ops, p.part.m.length ≤ 140737488355328) :
    Calls Tryd.prog 4 #[.slice ka key.length kc, .slice a ops.length cap] w (Below0 w (.bool true)) := by
  obtain ⟨K, hK⟩ : ∃ K, K = ops.length := ⟨_, rfl⟩
  obtain ⟨L, hL⟩ : ∃ L, L = key.length := ⟨_, rfl⟩
  rw [← hK] at hps ⊢
  rw [← hL] at hkc ⊢
  have HK := Lib.hid hK
  have HL := Lib.hid hL
  have HP := Lib.hid (And.intro hP (And.intro hok (And.intro hT (And.intro hgl hbig))))
  have HKY := Lib.hid (And.intro hk (And.intro hkc hkm))
  clear hK hL hP hok hT hgl hbig hk hkc hkm
  go_enter Tryd.func4, Tryd.ntmps4
  go_wp2_with (fail)
  refine (hfirst_any w HP.out.2.2.1 HP.out.2.2.2.1).mono ?_
  rintro e wN ⟨rfl, hB1⟩
  have HB := Lib.hid hB1
  clear hB1
  dsimp only
  by_cases h200 : (200 : Int) < (L : Int)
  · go_wp2_with (fail)
    go_ret
    exact ⟨rfl, HB.out⟩
  have hkl : key.length ≤ 200 := by have := HL.out; omega
  have HN : Hid (Calls Tryd.prog 9 #[.slice ka L kc] wN (NewMac wN key)) := by
    have hB := HB.out
    have hs := hB.size
    have hgl := HP.out.2.2.2.1
    have hk := HKY.out.2.1
    have := newMac_any wN ka kc key (HKY.out.1.below hB) (by rw [← HL.out]; exact hk) HKY.out.2.2 (by omega) (HP.out.2.2.1.below hB) (by omega)
    rwa [← HL.out] at this
  have HKL := Lib.hid hkl
  clear hkl
  go_wp2_with (fail)
  refine HN.out.mono ?_
  rintro e w2 ⟨b, rfl, hM, hB2⟩
  obtain ⟨B0, hB0⟩ : ∃ B0, B0 = wN.heap.size := ⟨_, rfl⟩
  rw [← hB0] at hM hB2
  obtain ⟨ik, hik⟩ : ∃ ik, ik = ipad key := ⟨_, rfl⟩
  obtain ⟨ok, hok⟩ : ∃ ok, ok = opad key := ⟨_, rfl⟩
  rw [← hik, ← hok] at hM
  have H2 := Lib.hid (And.intro hM hB2)
  have HB0 := Lib.hid hB0
  have HPAD := Lib.hid (And.intro hik hok)
  clear hM hB2 hB0 hik hok HN
  dsimp only
  go_wp2_with (fail)
  refine (mreset_nil _).mono ?_
  rintro e w' ⟨rfl, rfl⟩
  dsimp only
  go_wp2_with (fail)
  rw [show (Value.string ⟨#[]⟩) = Sv [] from rfl]
  go_loopw [7, 21] (HPlayRel wN B0 b K ik ok) (fun _ i _ => K - (intOf i).toNat)
  case atStart => exact ⟨0, [], by omega, rfl, rfl, by simp, H2.out.1, H2.out.2⟩
  case round =>
    obtain ⟨t, l, ht, rfl, rfl, hl, hM, hB⟩ := hrel
    have lenl : ∀ w ty, (Builtin.len_ #[9] ty #[Sv l]).run Tryd.prog w = .ok (.int .i64 (l.length : Int)) w := fun w ty => run_len_Sv w ty l
    by_cases hlt : t < K
    · obtain ⟨x, hx⟩ : ∃ x, ops[t]? = some x := ⟨ops[t]'(by rw [← HK.out]; exact hlt), List.getElem?_eq_getElem (by rw [← HK.out]; exact hlt)⟩
      have hxm : x ∈ ops := List.mem_of_getElem? hx
      rcases HP.out.1 with hP | ⟨pb, po, rfl, hP⟩
      · rw [hP] at hx
        cases hx
      have i0 : (0 : Int) ≤ (t : Int) ∧ (t : Int) < (K : Int) := by omega
      obtain ⟨h1, h2⟩ := hP t x hx
      have hB0 := HB0.out
      have hBw : Below w.heap.size w wr := HB.out.trans (hB.mono (by rw [hB0]; exact HB.out.size))
      have d1 : wr.cell? ⟨pb, po + t * 2, none⟩ = some (.int .i64 x.kind) := (hBw.cell (p := ⟨pb, po + t * 2, none⟩) (block_lt_of_cell h1)).trans h1
      have d2 : wr.cell? ⟨pb, po + t * 2 + 1, none⟩ = some (.slice x.part.a x.part.m.length x.part.cap) := (hBw.cell (p := ⟨pb, po + t * 2 + 1, none⟩) (block_lt_of_cell h2)).trans h2
      have hxo : x.part.ok wN := (HP.out.2.1 x hxm).below HB.out
      obtain ⟨κ, hκ⟩ : ∃ κ, κ = x.kind := ⟨_, rfl⟩
      obtain ⟨pa, hpa⟩ : ∃ y, y = x.part.a := ⟨_, rfl⟩
      obtain ⟨m, hm⟩ : ∃ y, y = x.part.m := ⟨_, rfl⟩
      obtain ⟨pc, hpc⟩ : ∃ y, y = x.part.cap := ⟨_, rfl⟩
      have hsrc : m.length ≤ pc ∧ pc ≤ 9223372036854775807 ∧ SrcP wN pa m.length m := by rw [hm, hpc, hpa]; exact hxo
      rw [← hκ] at d1
      rw [← hpa, ← hm, ← hpc] at d2
      obtain ⟨N, hN⟩ : ∃ N, N = l.length := ⟨_, rfl⟩
      obtain ⟨M, hMm⟩ : ∃ M, M = m.length := ⟨_, rfl⟩
      rw [← hMm] at d2
      rw [← hN] at lenl
      have hM47 : M ≤ 140737488355328 := by rw [hMm, hm]; exact HP.out.2.2.2.2 x hxm
      have hN4 : N ≤ 400 := by omega
      have HX := Lib.hid (And.intro hsrc (And.intro hN (And.intro hMm (And.intro hM hB))))
      clear hx hxm hP h1 h2 hBw hxo hκ hpa hm hpc hsrc hN hMm hM hB hl hB0
      go_upto_region 12 with (fail)
      obtain ⟨wo, hwo⟩ : ∃ wo, wo = wr.alloc (.cells #[.int .i64 κ, .slice pa M pc] 34) := ⟨_, rfl⟩
      rw [← hwo]
      obtain ⟨ob, hob⟩ : ∃ ob, ob = wr.heap.size := ⟨_, rfl⟩
      rw [← hob]
      have hobl : wo.heap[ob]? = some (.cells #[.int .i64 κ, .slice pa M pc] 34 (0, 0)) := by rw [hwo, hob]; exact heap_alloc_new wr _
      have co0 : wo.cell? ⟨ob, 0, none⟩ = some (.int .i64 κ) := by rw [cell_of_row _ _ 0 _ _ _ hobl]; rfl
      have co1 : wo.cell? ⟨ob, 1, none⟩ = some (.slice pa M pc) := by rw [cell_of_row _ _ 1 _ _ _ hobl]; rfl
      have hBo : Below wr.heap.size wr wo := by rw [hwo]; exact (Below.refl _ wr).alloc (Nat.le_refl _) _
      have HO := Lib.hid (And.intro hBo (And.intro hob hobl))
      clear hwo hob hobl hBo d1 d2
      have hend : Below w.heap.size w wo := by
        have h1 := HX.out.2.2.2.2
        have hb := HB0.out
        have hs := HB.out.size
        have h2 : Below w.heap.size w wr := HB.out.trans (h1.mono (by omega))
        exact h2.trans (HO.out.1.mono h2.size)
      have HE := Lib.hid hend
      clear hend
      by_cases h12 : 12 ≤ t
      · have h12' : (12 : Int) ≤ (t : Int) := by omega
        go_wp2_with (fail)
        go_ret
        exact ⟨rfl, HE.out⟩
      have h12' : ¬ (12 : Int) ≤ (t : Int) := by omega
      by_cases h400 : 400 < N + M
      · have h400' : (400 : Int) < (N : Int) + (M : Int) := by omega
        go_wp2_with (fail)
        go_ret
        exact ⟨rfl, HE.out⟩
      have h400' : ¬ (400 : Int) < (N : Int) + (M : Int) := by omega
      obtain ⟨u, hu⟩ : ∃ u : Nat, IntKind.u64.wrap κ = (u : Int) := ⟨(IntKind.u64.wrap κ).toNat, by
        have : 0 ≤ IntKind.u64.wrap κ := by
          simp [IntKind.wrap, IntKind.bits, IntKind.signed]
          omega
        omega⟩
      have hcv : ∀ w, (convert 3 35 (.int .i64 κ)).run Tryd.prog w = .ok (.int .u64 (u : Int)) w := fun w => by rw [run_conv_i64_u64, hu]
      clear hu
      obtain ⟨r, hr⟩ : ∃ r, r = u % 3 := ⟨_, rfl⟩
      have hr3 : r = 0 ∨ r = 1 ∨ r = 2 := by omega
      have r1 : (u : Int) % 3 = (r : Int) := by omega
      clear hr
      go_upto_block 2 with (fail)
      go_cut [7, 21] from 21 to 74 (fun s c wx => HPlayCut wN B0 b t ik ok s c wx)
      case first =>
        have hBo : Below B0 wN wo := HX.out.2.2.2.2.trans (HO.out.1.mono (Nat.le_of_lt HX.out.2.2.2.1.lt.1))
        have hMo := HX.out.2.2.2.1.below HO.out.1
        have HM := Lib.hid (And.intro hBo hMo)
        clear hBo hMo
        rcases hr3 with h | h | h
        · have e0 : ((r : Int) == 0) = true := by rw [h]; rfl
          clear h
          have hwr : Calls Tryd.prog 11 #[.pointer (some ⟨b, 0, none⟩), .slice pa M pc] wo.drew (MWriteEnd B0 wo.drew b M ik ok l m) := by
            obtain ⟨hsrc, hN, hMm, _, _⟩ := HX.out
            obtain ⟨hBo, hMo⟩ := HM.out
            have hD : Below wo.heap.size wo wo.drew := (Below.refl _ wo).drew
            have hbe := HB0.out
            have hBd : Below B0 wN wo.drew := hBo.trans (hD.mono (Nat.le_of_lt hMo.lt.1))
            have hs := HB.out.size
            have hgl := HP.out.2.2.2.1
            exact mwrite_any wo.drew B0 b M ik ok l m pa pc (hMo.below hD) ((HP.out.2.2.1.below HB.out).from hBd (by omega) (by omega)) (by omega) hMm (by omega) hsrc.2.1
              (fun g c hg _ => (hsrc.2.2.src (b := g) (by omega)).belowS (by rw [← hbe]; exact hBd)) (by rw [HPAD.out.1, ipad_length]; omega)
          have HWR := Lib.hid hwr
          have HOB : Hid (wo.drew.heap[ob]? = some (.cells #[.int .i64 κ, .slice pa M pc] 34 (0, 0))) := HO.out.2.2
          clear hwr
          go_wp2_with (fail)
          go_region_held3 (fun w' => w'.cell? ⟨ob, 1, none⟩ = some (.slice pa M pc))
            (first | go_keep | (exact (hKz.cell HOB.out (by decide) (by decide) 1).trans rfl))
            (first | ((with_reducible refine (mwrite_nil _ _).mono ?_); rintro e wz ⟨rfl, rfl⟩) | ((with_reducible refine HWR.out.mono ?_); rintro e wz ⟨rfl, hMz, hKz⟩))
          have cz1 : wz.cell? ⟨ob, 1, none⟩ = some (.slice pa M pc) := (hKz.cell HOB.out (by decide) (by decide) 1).trans rfl
          have hBz : Below B0 wN wz := by
            obtain ⟨hBo, hMo⟩ := HM.out
            exact (hBo.trans (((Below.refl wo.heap.size wo).drew).mono (Nat.le_of_lt hMo.lt.1))).trans hKz.1
          have hcs : (convert 22 9 (.slice pa M pc)).run Tryd.prog wz = .ok (Sv m) wz := by
            have h1 := HX.out.1.2.2.below (by rw [← HB0.out]; exact hBz)
            have := run_conv_str wz pa pc m h1
            rwa [← HX.out.2.2.1] at this
          have hadd : ∀ w, (binOp .add 9 (Sv l) (Sv m)).run Tryd.prog w = .ok (Sv (l ++ m)) w := fun w => run_add_Sv w l m (by have h1 := HX.out.2.1; have h2 := HX.out.2.2.1; omega)
          have HZ : Hid (MacAt B0 wz b ik ok (l ++ m) ∧ Below B0 wN wz ∧ (l ++ m).length ≤ 400) := ⟨hMz, hBz, by rw [List.length_append]; have h1 := HX.out.2.1; have h2 := HX.out.2.2.1; omega⟩
          clear hMz hKz hBz
          go_wp2_with (fail)
          go_meet
          exact ⟨l ++ m, rfl, rfl, HZ.out.2.2, HZ.out.1, HZ.out.2.1⟩
        · have e0 : ((r : Int) == 0) = false := by rw [h]; rfl
          have e2 : ((r : Int) == 2) = false := by rw [h]; rfl
          clear h
          go_wp2_with (fail)
          go_meet
          have hl := HX.out.2.1
          exact ⟨l, rfl, rfl, by omega, HM.out.2, HM.out.1⟩
        · have e0 : ((r : Int) == 0) = false := by rw [h]; rfl
          have e2 : ((r : Int) == 2) = true := by rw [h]; rfl
          clear h
          go_wp2_with (fail)
          refine (mreset_any wo B0 b ik ok l HM.out.2).mono ?_
          rintro e wz ⟨rfl, hMz, hKz⟩
          have HZ := Lib.hid (And.intro hMz (HM.out.1.trans hKz.1))
          clear hMz hKz
          dsimp only
          go_wp2_with (fail)
          go_meet
          exact ⟨[], rfl, rfl, by simp, HZ.out.1, HZ.out.2⟩
      case rest =>
        obtain ⟨l', rfl, rfl, hl', hM', hB'⟩ := hcut
        have HC := Lib.hid (And.intro hl' (And.intro hM' hB'))
        clear hl' hM' hB'
        go_upto_region 22 with (fail)
        refine wp_region_local_frame (by kernel_rfl) (vOfB (hplayVs b ka L kc key l')) (fun w' => Below wc.heap.size wc w') (fun w w' => Below w.heap.size w w') (vOfB_st _) (by kernel_rfl) ⟨rfl, rfl, rfl, Nat.le_refl _, fun _ _ => rfl⟩ ⟨trivial, trivial, trivial, trivial, trivial, trivial, trivial, trivial⟩ ?_ ?_
        · have HF : Hid (Below wN.heap.size wN wc ∧ Tables wc ∧ 0 < wc.heap.size ∧ 1 < wc.heap.size ∧ SrcP wc ka key.length key) := by
            obtain ⟨hl', hM', hB'⟩ := HC.out
            rw [HB0.out] at hB'
            have hs := HB.out.size
            have hs2 := hB'.size
            have hgl := HP.out.2.2.2.1
            exact ⟨hB', (HP.out.2.2.1.below HB.out).below hB', by omega, by omega, (HKY.out.1.below HB.out).below hB'⟩
          refine ⟨?_, ?_, ?_, ?_, ?_, ?_, ?_, trivial⟩
          · intro a w' hG hout hpre K hK
            have q5 := ev_of ((hout 5 rfl).trans (show _ = .pointer (some ⟨b, 0, none⟩) from rfl))
            clear hout hpre
            go_step
            exact hK _ _ rfl hG (Below.refl _ _)
          · intro a w' hG hout hpre K hK
            obtain ⟨p0, _⟩ := hpre
            have q := ev_of (show a.eval (.tmp 67) = .pointer (some ⟨b, 0, none⟩) from p0)
            have hs : Calls Tryd.prog 12 #[.pointer (some ⟨b, 0, none⟩)] w' (Below0 w' (.agg (ShaA (macL key l')))) := by
              obtain ⟨hl', hM', hB'⟩ := HC.out
              obtain ⟨_, hT, g0, g1, _⟩ := HF.out
              have hz := hG.size
              have := msum_any w' B0 b ik ok l' (hM'.below hG) (hT.below hG) (by omega) (by rw [HPAD.out.1, ipad_length]; omega) (by rw [HPAD.out.2, opad_length]; omega)
              rw [HPAD.out.1, HPAD.out.2] at this
              exact this
            have HS := Lib.hid hs
            clear hout hs p0
            go_step
            refine HS.out.mono ?_
            rintro e w3 ⟨rfl, hB⟩
            exact hK _ _ rfl (hG.trans (hB.mono hG.size)) hB
          · intro a w' hG hout hpre K hK
            have q0 := ev_of ((hout 0 rfl).trans (show _ = .slice ka L kc from rfl))
            clear hout hpre
            go_step
            exact hK _ _ rfl hG (Below.refl _ _)
          · intro a w' hG hout hpre K hK
            obtain ⟨p0, _⟩ := hpre
            have q := ev_of (show a.eval (.tmp 69) = .slice ka L kc from p0)
            have hcv : (convert 22 9 (.slice ka L kc)).run Tryd.prog w' = .ok (Sv key) w' := by
              have := run_conv_str w' ka kc key (HF.out.2.2.2.2.below hG)
              rwa [← HL.out] at this
            clear hout p0
            go_step
            exact hK _ _ rfl hG (Below.refl _ _)
          · intro a w' hG hout hpre K hK
            have q7 := ev_of ((hout 7 rfl).trans (show _ = Sv l' from rfl))
            clear hout hpre
            go_step
            exact hK _ _ rfl hG (Below.refl _ _)
          · intro a w' hG hout hpre K hK
            obtain ⟨p0, p1, _⟩ := hpre
            have q1 := ev_of (show a.eval (.tmp 70) = Sv key from p0)
            have q2 := ev_of (show a.eval (.tmp 71) = Sv l' from p1)
            have HS := Lib.hid (rtag_any w' key l' (by have := HKL.out; omega) (by have := HC.out.1; omega))
            clear hout p0 p1
            go_step
            refine HS.out.mono ?_
            rintro e w3 ⟨rfl, hB⟩
            exact hK _ _ rfl (hG.trans (hB.mono hG.size)) hB
          · intro a w' hG hout hpre K hK
            obtain ⟨p0, p1, _⟩ := hpre
            have q1 := ev_of (show a.eval (.tmp 68) = .agg (ShaA (macL key l')) from p0)
            have q2 := ev_of (show a.eval (.tmp 72) = .agg (ShaA (macL key l')) from p1)
            obtain ⟨e1, e2, e3⟩ := neq_sum (macL key l')
            clear hout p0 p1
            go_step
            exact hK _ _ rfl hG (Below.refl _ _)
        · intro vs w2 hG hlen hV
          match vs, hlen, hV with
          | [v0, v1, v2, v3, v4, v5, v6], _, hV =>
            obtain rfl : v6 = .bool false := hV 6 73 v6 rfl rfl
            have HZ := Lib.hid (And.intro (HC.out.2.1.below hG) (And.intro (HC.out.2.2.trans (hG.mono (Nat.le_of_lt HC.out.2.1.lt.1))) HC.out.1))
            clear hV hG
            simp only [putsL, List.tail_cons, List.headD_cons]
            simp only [Act.put, List.setIfInBounds_toArray, List.set_cons_succ, List.set_cons_zero]
            go_wp2_with (fail)
            exact ⟨⟨t + 1, l', by omega, by go_num, rfl, HZ.out.2.2, HZ.out.1, HZ.out.2.1⟩, by simp [intOf]; omega⟩
    · obtain rfl : t = K := by omega
      obtain ⟨Y, hY⟩ : ∃ Y : Array Value, Y = noughts32 := ⟨_, rfl⟩
      have hz2 : ∀ w, (zeroValue 25).run Tryd.prog w = .ok (.agg Y) w := by rw [hY]; exact zero32.1
      obtain ⟨e1, e2, e3⟩ := eql_noughts
      have hs : ∀ w, Calls Tryd.prog 12 #[.pointer none] w (Below0 w (.agg Y)) := fun w => by rw [hY]; exact msum_nil w
      rw [← hY] at e1 e2 e3
      have HS := Lib.hid hs
      have hBw : Below w.heap.size w wr := HB.out.trans (hB.mono (by rw [HB0.out]; exact HB.out.size))
      have HE := Lib.hid hBw
      clear hY hs hBw hB hM lenl hl
      go_wp2_with (fail)
      refine (HS.out _).mono ?_
      rintro e w3 ⟨rfl, hB3⟩
      have H3 := Lib.hid (HE.out.trans (hB3.mono HE.out.size))
      clear hB3
      dsimp only
      go_wp2_with (fail)
      go_ret
      exact ⟨rfl, H3.out⟩
end Go.Proofs.YtmdacfbhfacniaaDoor
