/-
  The contracts of the reference's text and Tag.
-/
import Derived.Test.YtmdacfbhfacniaaDoorHmacWhole
import Derived.Test.YtmdacfbhfacniaaDoorRefSum
import Derived.Laws.IdiomStrings
namespace Go.Proofs.YtmdacfbhfacniaaDoor
open Go.RowKit

set_option maxRecDepth 100000 in
theorem rtext_any (w : World) (m : List (BitVec 8)) : Calls Tryd.prog 13 #[.agg (ShaA m)] w (Below0 w (Sv (shaL m))) := by
  obtain ⟨z, hz⟩ : ∃ z, z = ShaA m := ⟨_, rfl⟩
  rw [← hz]
  have hzz : z = ((shaL m).map B).toArray := by rw [hz, ShaA_is]
  have hcv : (convert 22 9 (.slice (some ⟨w.heap.size, 0, none⟩) 32 32)).run Tryd.prog (w.alloc (.cells z 25)) = .ok (Sv (shaL m)) (w.alloc (.cells z 25)) := by
    have h := heap_alloc_new w (.cells z 25)
    rw [hzz] at h ⊢
    have := run_conv_str _ _ 32 _ (src_row h)
    rwa [shaL_length] at this
  clear hz hzz
  go_enter Tryd.func13, Tryd.ntmps13
  go_wp2_with (fail)
  go_ret
  exact ⟨rfl, (Below.refl _ w).alloc (Nat.le_refl _) _⟩

def RKeyEnd (w : World) (Z : Array Value) (s : List (BitVec 8)) (s0 : Value) (wx : World) : Prop :=
  s0 = Sv s ∧ Below w.heap.size w wx ∧ wx.heap[w.heap.size]? = some (.cells Z 25 (0, 0))
def PadRel (w1 : World) (s : List (BitVec 8)) (s0 : Value) (wr : World) : Prop := ∃ t : Nat, s0 = Sv (s ++ List.replicate t 0) ∧ s.length + t ≤ 64 ∧ wr = w1
def lenS : Value → Nat | .string b => b.size | _ => 0
theorem lenS_Sv (m : List (BitVec 8)) : lenS (Sv m) = m.length := strOf_size m
def PadsRel (wd : World) (k : List (BitVec 8)) (i o n : Value) (wr : World) : Prop :=
  ∃ t : Nat, t ≤ 64 ∧ n = .int .i64 (t : Int) ∧ i = Sv (xorL 0x36 (k.take t)) ∧ o = Sv (xorL 0x5c (k.take t)) ∧ Below wd.heap.size wd wr
theorem xorL_step (x : BitVec 8) (k : List (BitVec 8)) (t : Nat) (h : t < k.length) : xorL x (k.take (t + 1)) = xorL x (k.take t) ++ [gl k t ^^^ x] := by
  rw [List.take_succ_eq_append_getElem h, xorL, xorL, List.map_append]
  simp [gl, h]

/-- A string as bytes: a new row, its bytes ahead of some spare noughts. -/
theorem conv_bytes (w : World) (m : List (BitVec 8)) : ∃ c w', (convert 9 22 (Sv m)).run Tryd.prog w = .ok (.slice (some ⟨w.heap.size, 0, none⟩) m.length c) w' ∧ Below w.heap.size w w' ∧
    ∀ i < m.length, w'.cell? ⟨w.heap.size, i, none⟩ = some (B (gl m i)) := by
  have h := run_bytes_of_string (P := Tryd.prog) w 9 22 5 (strOf m) Tryd.underlying9 Tryd.underlying22 Tryd.underlying5
  rw [strOf_size] at h
  refine ⟨_, _, h, ((Below.refl _ w).drew).alloc (Nat.le_refl _) _, fun i hi => ?_⟩
  have hs : i < (strOf m).data.size := by rw [strOf_data]; simpa using hi
  have e : w.heap.size = w.drew.heap.size := rfl
  rw [e, World.cell?_alloc_mark, bytesRow_at _ _ _ hs]
  simp only [strOf_data, List.getElem_toArray, List.getElem_map]
  have := (gl m i).isLt
  simp only [B, gl, List.getD_eq_getElem?_getD, List.getElem?_eq_getElem hi, Option.getD_some] at this ⊢
  congr 2
  simp

set_option maxRecDepth 100000 in
set_option maxHeartbeats 2000000 in
theorem rtag_any (w : World) (key m : List (BitVec 8)) (hk : key.length ≤ 100000) (hm : m.length ≤ 90000) :
    Calls Tryd.prog 6 #[Sv key, Sv m] w (Below0 w (.agg (ShaA (macL key m)))) := by
  obtain ⟨Z, hZ⟩ : ∃ Z : Array Value, Z = Array.replicate 32 (.int .u8 0) := ⟨_, rfl⟩
  have hz2 : ∀ w, (zeroValue 25).run Tryd.prog w = .ok (.agg Z) w := by rw [hZ]; exact zero32.1
  have HZ := Lib.hid hZ
  obtain ⟨w0, hw0⟩ : ∃ w0, w0 = w.alloc (.cells Z 25) := ⟨_, rfl⟩
  have hB0 : Below w.heap.size w w0 := by rw [hw0]; exact (Below.refl _ w).alloc (Nat.le_refl _) _
  have hr0 : w0.heap[w.heap.size]? = some (.cells Z 25 (0, 0)) := by rw [hw0]; exact heap_alloc_new w _
  have H0 := Lib.hid (And.intro hB0 (And.intro hr0 (And.intro hk hm)))
  have lk : ∀ w ty, (Builtin.len_ #[9] ty #[Sv key]).run Tryd.prog w = .ok (.int .i64 (key.length : Int)) w := fun w ty => run_len_Sv w ty key
  obtain ⟨L, hL⟩ : ∃ L, L = key.length := ⟨_, rfl⟩
  rw [← hL] at lk
  have HL := Lib.hid hL
  clear hZ hB0 hr0 hk hm hL
  go_enter Tryd.func6, Tryd.ntmps6
  go_upto_if 11 with (fail)
  rw [← hw0]
  clear hw0 hz2
  go_cut [0] from 11 to 14 (fun s0 wx => RKeyEnd w Z (shortL key) s0 wx)
  case first =>
    by_cases hlong : 64 < L
    · have hl : (64 : Int) < (L : Int) := by omega
      have HB := Lib.hid hlong
      clear hlong
      go_wp2_with (fail)
      refine (refSum_any w0 key H0.out.2.2.1).mono ?_
      rintro e w1 ⟨rfl, hB1⟩
      have H1 := Lib.hid hB1
      clear hB1
      dsimp only
      go_wp2_with (fail)
      refine (rtext_any w1 key).mono ?_
      rintro e w2 ⟨rfl, hB2⟩
      have H2 := Lib.hid (H1.out.trans (hB2.mono H1.out.size))
      clear hB2
      dsimp only
      go_wp2_with (fail)
      go_meet
      have hl2 : 64 < key.length := by rw [← HL.out]; exact HB.out
      exact ⟨by rw [shortL_long hl2], H0.out.1.trans (H2.out.mono H0.out.1.size), (H2.out.block _ (Array.getElem?_eq_some_iff.1 H0.out.2.1).1).trans H0.out.2.1⟩
    · have hl : ¬ (64 : Int) < (L : Int) := by omega
      go_wp2_with (fail)
      go_meet
      have hl2 : key.length ≤ 64 := by rw [← HL.out]; omega
      exact ⟨by rw [shortL_short hl2], H0.out.1, H0.out.2.1⟩
  case rest =>
    obtain ⟨rfl, hB, hr⟩ := hcut
    obtain ⟨s, hs⟩ : ∃ s, s = shortL key := ⟨_, rfl⟩
    rw [← hs]
    have hs64 : s.length ≤ 64 := by rw [hs]; exact shortL_length key
    have HC := Lib.hid (And.intro hB (And.intro hr (And.intro hs64 hs)))
    clear hB hr hs64 hs lk
    go_wp2_with (fail)
    go_loopw [0] (PadRel wc s) (fun v _ => 64 - lenS v)
    case atStart => exact ⟨0, by simp, HC.out.2.2.1, rfl⟩
    case round =>
      obtain ⟨t, rfl, ht, rfl⟩ := hrel
      obtain ⟨u, hu⟩ : ∃ u, u = s ++ List.replicate t 0 := ⟨_, rfl⟩
      rw [← hu]
      have hul : u.length = s.length + t := by rw [hu]; simp
      have lu : ∀ w ty, (Builtin.len_ #[9] ty #[Sv u]).run Tryd.prog w = .ok (.int .i64 ((s.length + t : Nat) : Int)) w := fun w ty => by rw [run_len_Sv w ty u, hul]
      obtain ⟨U, hU⟩ : ∃ U, U = s.length + t := ⟨_, rfl⟩
      rw [← hU] at lu
      have HU := Lib.hid (And.intro hu (And.intro hul (And.intro hU ht)))
      clear hu hul hU ht
      by_cases hlt : U < 64
      · have h1 : (U : Int) < 64 := by omega
        have ha : ∀ w, (binOp .add 9 (Sv u) (.string ⟨#[0]⟩)).run Tryd.prog w = .ok (Sv (u ++ [0])) w := fun w => run_add_S0 w u (by have := HU.out; omega)
        go_wp2_with (fail)
        obtain ⟨hu, hul, hU, ht⟩ := HU.out
        refine ⟨⟨t + 1, ?_, by omega, rfl⟩, ?_⟩
        · show Sv (u ++ [0]) = _
          rw [hu, List.append_assoc, ← List.replicate_succ']
        · show 64 - lenS (Sv (u ++ [0])) < 64 - lenS (Sv u)
          rw [lenS_Sv, lenS_Sv, List.length_append, List.length_singleton]
          omega
      · have h1 : ¬ (U : Int) < 64 := by omega
        have hu64 : u.length = 64 := by have := HU.out; omega
        have huk : u = keyL key := by
          obtain ⟨hu, hul, hU, ht⟩ := HU.out
          rw [hu, keyL, ← HC.out.2.2.2, show t = 64 - s.length by omega]
        obtain ⟨wk, rfl⟩ : ∃ x, x = wr := ⟨wr, rfl⟩
        obtain ⟨c, wd, hcv, hBd, hcells⟩ := conv_bytes wk u
        rw [hu64] at hcv hcells
        have HD := Lib.hid (And.intro huk (And.intro hu64 (And.intro hBd hcells)))
        clear huk hu64 hBd hcells
        go_wp2_with (fail)
        have hnil : (Value.string ⟨#[]⟩) = Sv [] := rfl
        rw [hnil]
        clear hnil hcv lu h1
        go_loopw [5, 6, 23] (PadsRel wd u) (fun _ _ k _ => 64 - (intOf k).toNat)
        case atStart => exact ⟨0, by omega, rfl, rfl, rfl, Below.refl _ _⟩
        case round =>
          obtain ⟨t2, ht2, rfl, rfl, rfl, hBr⟩ := hrel
          by_cases hlt2 : t2 < 64
          · have i0 : (0 : Int) ≤ (t2 : Int) ∧ (t2 : Int) < 64 := by omega
            obtain ⟨X, hX⟩ : ∃ X, X = gl u t2 := ⟨_, rfl⟩
            have hc1 : wr.cell? ⟨wk.heap.size, t2, none⟩ = some (B X) := by
              have h1 := HD.out.2.2.2 t2 hlt2
              rw [hX, ← h1]
              exact hBr.cell (p := ⟨wk.heap.size, t2, none⟩) (block_lt_of_cell h1)
            obtain ⟨y1, hy1⟩ : ∃ y, y = X ^^^ 0x36 := ⟨_, rfl⟩
            obtain ⟨y2, hy2⟩ : ∃ y, y = X ^^^ 0x5c := ⟨_, rfl⟩
            have hx1 : ∀ w, (binOp .xor 5 (B X) (.int .u8 54)).run Tryd.prog w = .ok (B y1) w := fun w => by rw [hy1]; exact run_xor_B Tryd.prog 5 X 0x36 w
            have hx2 : ∀ w, (binOp .xor 5 (B X) (.int .u8 92)).run Tryd.prog w = .ok (B y2) w := fun w => by rw [hy2]; exact run_xor_B Tryd.prog 5 X 0x5c w
            obtain ⟨I, hI⟩ : ∃ I, I = xorL 0x36 (u.take t2) := ⟨_, rfl⟩
            obtain ⟨O, hO⟩ : ∃ O, O = xorL 0x5c (u.take t2) := ⟨_, rfl⟩
            have hI2 : I ++ [y1] = xorL 0x36 (u.take (t2 + 1)) := by rw [xorL_step _ _ _ (by rw [HD.out.2.1]; exact hlt2), hI, hy1, hX]
            have hO2 : O ++ [y2] = xorL 0x5c (u.take (t2 + 1)) := by rw [xorL_step _ _ _ (by rw [HD.out.2.1]; exact hlt2), hO, hy2, hX]
            have hIl : I.length ≤ 64 := by rw [hI, xorL_length, List.length_take]; omega
            have hOl : O.length ≤ 64 := by rw [hO, xorL_length, List.length_take]; omega
            rw [← hI, ← hO]
            have ha1 : ∀ w, (binOp .add 9 (Sv I) (Sv [y1])).run Tryd.prog w = .ok (Sv (I ++ [y1])) w := fun w => run_add_Sv w I [y1] (by simp only [List.length_singleton]; omega)
            have ha2 : ∀ w, (binOp .add 9 (Sv O) (Sv [y2])).run Tryd.prog w = .ok (Sv (O ++ [y2])) w := fun w => run_add_Sv w O [y2] (by simp only [List.length_singleton]; omega)
            have HI := Lib.hid (And.intro hI2 (And.intro hO2 hBr))
            clear hX hy1 hy2 hI hO hI2 hO2 hIl hOl hBr
            go_upto_region 9 with (fail)
            clear hc1
            refine wp_region_lit ?_
            iterate 9 go_step
            refine run_slice1_B rfl (.tmp 29) rfl y1 rfl ?_
            have hcv := run_conv_one (wr.alloc (.cells #[B y1] 5)) wr.heap.size 1 y1 (by go_simp)
            obtain ⟨W1, hW1⟩ : ∃ W1, W1 = wr.alloc (.cells #[B y1] 5) := ⟨_, rfl⟩
            have HW1 : Hid (Below wd.heap.size wd W1) := by rw [hW1]; exact HI.out.2.2.alloc HI.out.2.2.size _
            rw [← hW1] at hcv ⊢
            clear hW1
            go_upto_region 10 with (fail)
            clear hcv
            refine wp_region_lit ?_
            iterate 9 go_step
            refine run_slice1_B rfl (.tmp 35) rfl y2 rfl ?_
            have hcv := run_conv_one (W1.alloc (.cells #[B y2] 5)) W1.heap.size 1 y2 (by go_simp)
            obtain ⟨W2, hW2⟩ : ∃ W2, W2 = W1.alloc (.cells #[B y2] 5) := ⟨_, rfl⟩
            have HW2 : Hid (Below wd.heap.size wd W2) := by rw [hW2]; exact HW1.out.alloc HW1.out.size _
            rw [← hW2] at hcv ⊢
            clear hW2
            go_wp2_with (fail)
            exact ⟨⟨t2 + 1, by omega, by go_num, by rw [HI.out.1], by rw [HI.out.2.1], HW2.out⟩, by simp [intOf]; omega⟩
          · obtain rfl : t2 = 64 := by omega
            rw [show ((64 : Nat) : Int) = 64 from rfl]
            have hut : u.take 64 = keyL key := by rw [List.take_of_length_le (by rw [HD.out.2.1]; omega)]; exact HD.out.1
            rw [hut]
            obtain ⟨I, hI⟩ : ∃ I, I = xorL 0x36 (keyL key) := ⟨_, rfl⟩
            obtain ⟨O, hO⟩ : ∃ O, O = xorL 0x5c (keyL key) := ⟨_, rfl⟩
            rw [← hI, ← hO]
            have hIl : I.length = 64 := by rw [hI, xorL_length, keyL_length]
            have hOl : O.length = 64 := by rw [hO, xorL_length, keyL_length]
            obtain ⟨im, him⟩ : ∃ im, im = I ++ m := ⟨_, rfl⟩
            have hml := H0.out.2.2.2
            have ha1 : ∀ w, (binOp .add 9 (Sv I) (Sv m)).run Tryd.prog w = .ok (Sv im) w := fun w => by rw [him]; exact run_add_Sv w I m (by omega)
            obtain ⟨x, hx⟩ : ∃ x, x = shaL im := ⟨_, rfl⟩
            have hxl : x.length = 32 := by rw [hx, shaL_length]
            obtain ⟨ox, hox⟩ : ∃ ox, ox = O ++ x := ⟨_, rfl⟩
            have ha2 : ∀ w, (binOp .add 9 (Sv O) (Sv x)).run Tryd.prog w = .ok (Sv ox) w := fun w => by rw [hox]; exact run_add_Sv w O x (by omega)
            have hmac : ox = macL key m := by rw [hox, hx, him, hI, hO]; rfl
            have hB0 : Below w.heap.size w wr := (HC.out.1.trans (HD.out.2.2.1.mono HC.out.1.size)).trans (hBr.mono (Nat.le_trans HC.out.1.size HD.out.2.2.1.size))
            have hr0 : wr.heap[w.heap.size]? = some (.cells Z 25 (0, 0)) := by
              have h1 := (HD.out.2.2.1.block _ (Array.getElem?_eq_some_iff.1 HC.out.2.1).1).trans HC.out.2.1
              exact (hBr.block _ (Array.getElem?_eq_some_iff.1 h1).1).trans h1
            have HS1 := Lib.hid (refSum_any wr im (by rw [him, List.length_append]; omega))
            have HT1 : Hid (∀ w, Calls Tryd.prog 13 #[.agg (ShaA im)] w (Below0 w (Sv x))) := fun w => by rw [hx]; exact rtext_any w im
            have HS2 : Hid (∀ w, Calls Tryd.prog 14 #[Sv ox] w (Below0 w (.agg (ShaA (macL key m))))) := fun w => by rw [← hmac]; exact refSum_any w ox (by rw [hox, List.length_append]; omega)
            have HB := Lib.hid (And.intro hB0 hr0)
            clear hI hO hIl hOl him hml hx hxl hox hmac hB0 hr0 hBr hut hlt2 ht2
            go_wp2_with (fail)
            refine HS1.out.mono ?_
            rintro e w2 ⟨rfl, hB2⟩
            have H2 := Lib.hid hB2
            clear hB2
            dsimp only
            go_wp2_with (fail)
            refine (HT1.out w2).mono ?_
            rintro e w3 ⟨rfl, hB3⟩
            have H3 := Lib.hid (H2.out.trans (hB3.mono H2.out.size))
            clear hB3
            dsimp only
            go_wp2_with (fail)
            refine (HS2.out w3).mono ?_
            rintro e w4 ⟨rfl, hB4⟩
            have H4 := Lib.hid (H3.out.trans (hB4.mono H3.out.size))
            clear hB4
            obtain ⟨z, hz⟩ : ∃ z, z = ShaA (macL key m) := ⟨_, rfl⟩
            rw [← hz]
            have hzs : z.size = 32 := by rw [hz, ShaA_size]
            have hi : (Tryd.prog.info? 25).map (·.size) = some z.size := by rw [hzs]; exact zero32.2
            have hz1 : z.all (·.oneCell') = true := by rw [hz]; exact Spell_one _
            have hr5 := (H4.out.block _ (Array.getElem?_eq_some_iff.1 HB.out.2).1).trans HB.out.2
            have H5 := Lib.hid (And.intro hzs (And.intro hi (And.intro hz1 hr5)))
            have HZ5 := Lib.hid hz
            clear hzs hi hz1 hr5 hz
            dsimp only
            go_step
            refine wpList_store_row rfl _ _ _ rfl w.heap.size z rfl rfl 25 Z H5.out.2.2.2 H5.out.2.1 (by rw [HZ.out, H5.out.1]; simp) H5.out.2.2.1 ?_
            go_wp2_with (fail)
            obtain ⟨hzs, hi, hz1, hr5⟩ := H5.out
            refine bodyPost_ret (v := .agg z) (results_cell_row rfl _ _ w.heap.size 25 z (0, 0) _ rfl (setRow_heap _ _ Z _ _ _ hr5) Tryd.underlying25 rfl hi) rfl ⟨by rw [HZ5.out], ?_⟩
            exact (HB.out.1.trans (H4.out.mono HB.out.1.size)).trans ⟨rfl, rfl, rfl, by simp, fun k hk => setRow_other _ _ _ _ (by omega)⟩
end Go.Proofs.YtmdacfbhfacniaaDoor
