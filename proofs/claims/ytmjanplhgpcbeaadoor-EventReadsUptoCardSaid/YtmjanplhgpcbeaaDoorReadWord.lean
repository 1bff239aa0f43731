/-
  The contract of a reader's word.
-/
import Derived.Test.YtmjanplhgpcbeaaDoorReadMem
import Derived.Test.YtmjanplhgpcbeaaDoorScopeTwo
namespace Go.Proofs.YtmjanplhgpcbeaaDoor
open Go Go.RowKit

theorem frame62 (A : Array Value) (h : A.size = 62) : ∃ u : Nat → Value, (∀ i, i < 62 → A[i]? = some (u i)) ∧ A = List.toArray (u 0 :: u 1 :: u 2 :: u 3 :: u 4 :: u 5 :: u 6 :: u 7 :: u 8 :: u 9 :: u 10 :: u 11 :: u 12 :: u 13 :: u 14 :: u 15 :: u 16 :: u 17 :: u 18 :: u 19 :: u 20 :: u 21 :: u 22 :: u 23 :: u 24 :: u 25 :: u 26 :: u 27 :: u 28 :: u 29 :: u 30 :: u 31 :: u 32 :: u 33 :: u 34 :: u 35 :: u 36 :: u 37 :: u 38 :: u 39 :: u 40 :: u 41 :: u 42 :: u 43 :: u 44 :: u 45 :: u 46 :: u 47 :: u 48 :: u 49 :: u 50 :: u 51 :: u 52 :: u 53 :: u 54 :: u 55 :: u 56 :: u 57 :: u 58 :: u 59 :: u 60 :: u 61 :: []) := by
  refine ⟨fun i => A.getD i undef, fun i hi => by simp [h, hi], ?_⟩
  have := frame_list A
  rw [h] at this
  apply Array.ext'
  rw [this]
  rfl
def RNext (b : Nat) (w : World) (l0 : List (BitVec 8)) (a : Act) (w' : World) : Prop :=
  w' = w ∧ a.defers = [] ∧ a.tmps.size = 62 ∧ a.tmps[0]? = some (.pointer (some ⟨b, 0, none⟩)) ∧ a.tmps[6]? = some (.int .i64 10) ∧
    ∃ i n acc : Nat, i + n = 9 ∧ acc < 128 ^ i ∧ i ≤ l0.length ∧ a.tmps[3]? = some (.int .u64 (acc : Int)) ∧ a.tmps[5]? = some (.int .i64 (i : Int)) ∧ rdW (n + 1) i acc (l0.drop i) = rdW 10 0 0 l0
def RWrong (b : Nat) (w : World) (l0 : List (BitVec 8)) (a : Act) (w' : World) : Prop :=
  w' = w ∧ a.defers = [] ∧ a.tmps.size = 62 ∧ a.tmps[0]? = some (.pointer (some ⟨b, 0, none⟩)) ∧ ∃ (k v : Nat) (r : List (BitVec 8)), k ≠ 0 ∧ a.tmps[6]? = some (.int .i64 (k : Int)) ∧ rdW 10 0 0 l0 = (k, v, r)
def rmeasure (a : Act) (_ : World) : Nat := 11 - (intOf ((a.tmps[5]?).getD undef)).toNat
theorem word_wrong {t : TapeL} {k v : Nat} {r : List (BitVec 8)} (h : rdW 10 0 0 t.s = (k, v, r)) (hk : k ≠ 0) : t.word = (0, t.fail (k : Int)) := by
  unfold TapeL.word
  by_cases he : t.e = 0
  · rw [if_neg (by simp [he]), h, if_neg hk]
  · rw [if_pos he, TapeL.fail, if_neg (fun h => he h.1)]
def RBadCut (bad : Bool) (i x : Nat) (W1 : World) (si sx s : Value) (wx : World) : Prop := si = .int .i64 (i : Int) ∧ sx = .int .u8 (x : Int) ∧ s = .bool bad ∧ wx = W1
theorem andNot8 : ∀ x : Fin 256, bits .andNot .u8 (x.val : Int) 128 = ((x.val % 128 : Nat) : Int) := by decide +kernel
theorem or_sum (a z k y : Nat) (hz : z = 2 ^ k * y) (ha : a < 2 ^ k) (hs : a + z < 18446744073709551616) : bits .or .u64 (a : Int) (z : Int) = ((a + z : Nat) : Int) := by
  have e : ∀ n : Nat, BitVec.ofInt 64 (n : Int) = BitVec.ofNat 64 n := fun n => by
    apply BitVec.eq_of_toNat_eq
    simp
  show IntKind.u64.wrap ((BitVec.ofInt 64 (a : Int) ||| BitVec.ofInt 64 (z : Int)).toNat : Int) = _
  rw [e, e, BitVec.toNat_or, BitVec.toNat_ofNat, BitVec.toNat_ofNat, Nat.mod_eq_of_lt (by omega), Nat.mod_eq_of_lt (by omega)]
  have h := Nat.two_pow_add_eq_or_of_lt ha y
  rw [← hz] at h
  rw [Nat.or_comm, ← h, Nat.add_comm, wrapU64 _ hs]
theorem rword_nil (w : World) : Calls Tryd.prog 60 #[.pointer none] w fun e w' => e = .returned (.int .u64 0) ∧ w' = w := by
  go_enter Tryd.func60, Tryd.ntmps60
  go_wp2_with (fail)
  go_step3
  go_wp2_with (fail)
  rw [Exit.noGoto_ret]
  go_ret
  exact ⟨rfl, rfl⟩
set_option maxRecDepth 100000 in
set_option maxHeartbeats 2000000 in
theorem rword_any (w : World) (base b : Nat) (t : TapeL) (h : RdAt base w b t) :
    Calls Tryd.prog 60 #[.pointer (some ⟨b, 0, none⟩)] w (RdEnd base w b t.word.2 (.int .u64 (t.word.1 : Int))) := by
  obtain ⟨a, n, c, hb, hn, hnc, hcm, hac, hsr, hte, hlen⟩ := id h
  obtain ⟨c0, c1, f0, f1⟩ := rd_cells hb
  have HH := Lib.hid h
  have HX := Lib.hid (And.intro hb (And.intro hn (And.intro hnc (And.intro hcm (And.intro hac (And.intro hsr (And.intro hte hlen)))))))
  clear h hb hn hnc hcm hac hsr hte hlen
  go_enter Tryd.func60, Tryd.ntmps60
  go_wp2_with (fail)
  refine wp_scope_two 0 1 (RWrong b w t.s) (RNext b w t.s) rmeasure rfl rfl ?_ ?_ ?_
  · rintro ⟨A, D⟩ w' ⟨rfl, hd, hs, h0, k, v, r, hk, h6, hr⟩
    obtain ⟨u, hu, rfl⟩ := frame62 A hs
    have v0 : u 0 = .pointer (some ⟨b, 0, none⟩) := Option.some.inj ((hu 0 (by omega)).symm.trans h0)
    have v6 : u 6 = .int .i64 (k : Int) := Option.some.inj ((hu 6 (by omega)).symm.trans h6)
    rw [v0, v6]
    have HF := Lib.hid (rfail_any w' base b t (k : Int) HH.out)
    have HW : Hid (t.word = (0, t.fail (k : Int))) := word_wrong hr hk
    obtain rfl : D = [] := hd
    clear hu v0 v6 hs h0 hk h6 hr
    go_wp2_with (fail)
    refine HF.out.mono ?_
    rintro e w1 ⟨rfl, k1, k2⟩
    have HZ := Lib.hid (And.intro k1 k2)
    clear k1 k2
    dsimp only
    go_wp2_with (fail)
    simp only [Exit.jumps]
    go_ret
    rw [HW.out]
    exact ⟨rfl, HZ.out⟩
  · rintro ⟨A, D⟩ w' ⟨rfl, hd, hs, h0, h6, i, n', acc, hin, hacc, hil, h3, h5, hrd⟩
    obtain ⟨u, hu, rfl⟩ := frame62 A hs
    have v0 : u 0 = .pointer (some ⟨b, 0, none⟩) := Option.some.inj ((hu 0 (by omega)).symm.trans h0)
    have v6 : u 6 = .int .i64 10 := Option.some.inj ((hu 6 (by omega)).symm.trans h6)
    have v3 : u 3 = .int .u64 (acc : Int) := Option.some.inj ((hu 3 (by omega)).symm.trans h3)
    have v5 : u 5 = .int .i64 (i : Int) := Option.some.inj ((hu 5 (by omega)).symm.trans h5)
    rw [v0, v3, v5, v6]
    obtain rfl : D = [] := hd
    clear hu v0 v6 v3 v5 hs h0 h6 h3 h5
    obtain ⟨hb, hn, hnc, hcm, hac, hsr, hte, hlen⟩ := HX.out
    have i0 : 0 ≤ (i : Int) := by omega
    by_cases hlt : i < n
    · rcases hsr with hsr | ⟨ab, off, rfl, hab1, hab2, hcell⟩
      · omega
      have hxc := hcell i (by omega)
      obtain ⟨x, hx⟩ : ∃ x, x = (gl t.s i).toNat := ⟨_, rfl⟩
      have hx256 : x < 256 := by rw [hx]; exact (gl t.s i).isLt
      have hxc2 : w'.cell? ⟨ab, off + i, none⟩ = some (.int .u8 (x : Int)) := by rw [hxc, B, hx]
      have i1 : (i : Int) < (n : Int) := by omega
      have ei : ((i : Int) == (n : Int)) = false := by simp; omega
      clear hxc
      have hdrop : t.s.drop i = gl t.s i :: t.s.drop (i + 1) := by
        rw [List.drop_eq_getElem_cons (by omega : i < t.s.length)]
        congr 1
        have hil' : i < t.s.length := by omega
        simp [gl, hil']
      have hstep : rdW (n' + 1) i acc (gl t.s i :: t.s.drop (i + 1)) = if badB i x then (11, 0, []) else if x < 128 then (0, acc + x % 128 * 128 ^ i, t.s.drop (i + 1)) else rdW n' (i + 1) (acc + x % 128 * 128 ^ i) (t.s.drop (i + 1)) := by
        rw [rdW_cons, ← hx]
      rw [hdrop] at hrd
      rw [hrd] at hstep
      have HS := Lib.hid hstep
      have HI := Lib.hid (And.intro hin (And.intro hacc hil))
      have HCELL := Lib.hid hcell
      clear hb hn hnc hcm hac hte hlen hab1 hab2 hcell hrd hdrop hstep hx hil
      obtain ⟨bad, hbad⟩ : ∃ z, z = badB i x := ⟨_, rfl⟩
      have HBAD := Lib.hid hbad
      have HLT := Lib.hid (And.intro hlt hx256)
      have HN := Lib.hid (show n = t.s.length ∧ n ≤ c from ⟨HX.out.2.1, HX.out.2.2.1⟩)
      clear hin hacc hlt hx256
      go_upto_region 8 with (fail)
      clear ei hxc2 i1
      go_cut [5, 4, 36] from 23 to 36 (fun si sx s wx => RBadCut bad i x w' si sx s wx)
      case first =>
        rw [badB] at hbad
        by_cases i0 : 0 < i
        · have q2 : (0 : Int) < (i : Int) := by omega
          by_cases x0 : x = 0
          · have q1 : ((x : Int) == 0) = true := by rw [x0]; rfl
            have q3 : bad = true := by rw [hbad]; exact decide_eq_true (.inl ⟨x0, i0⟩)
            have ix : i = i := rfl
            have xx : x = 0 := x0
            have Q3 := Lib.hid (And.intro q3 (And.intro ix xx))
            clear x0 i0 q3 ix xx hbad
            go_wp2_with (fail)
            go_meet
            exact ⟨by first | rfl | (rw [Q3.out.2.1]; done) | (rw [Q3.out.2.1]; rfl), by first | rfl | (rw [Q3.out.2.2]; done) | (rw [Q3.out.2.2]; rfl), by rw [Q3.out.1], rfl⟩
          · have q1 : ((x : Int) == 0) = false := by simp; omega
            by_cases i9 : i = 9
            · have q4 : ((i : Int) == 9) = true := by rw [i9]; rfl
              by_cases x1 : 1 < x
              · have q5 : (1 : Int) < (x : Int) := by omega
                have q3 : bad = true := by rw [hbad]; exact decide_eq_true (.inr ⟨i9, x1⟩)
                have ix : i = 9 := i9
                have xx : x = x := rfl
                have Q3 := Lib.hid (And.intro q3 (And.intro ix xx))
                clear x0 i0 i9 x1 q3 ix xx hbad
                go_wp2_with (fail)
                go_meet
                exact ⟨by first | rfl | (rw [Q3.out.2.1]; done) | (rw [Q3.out.2.1]; rfl), by first | rfl | (rw [Q3.out.2.2]; done) | (rw [Q3.out.2.2]; rfl), by rw [Q3.out.1], rfl⟩
              · have q5 : ¬ (1 : Int) < (x : Int) := by omega
                have q3 : bad = false := by rw [hbad]; exact decide_eq_false (by omega)
                have ix : i = 9 := i9
                have xx : x = x := rfl
                have Q3 := Lib.hid (And.intro q3 (And.intro ix xx))
                clear x0 i0 i9 x1 q3 ix xx hbad
                go_wp2_with (fail)
                go_meet
                exact ⟨by first | rfl | (rw [Q3.out.2.1]; done) | (rw [Q3.out.2.1]; rfl), by first | rfl | (rw [Q3.out.2.2]; done) | (rw [Q3.out.2.2]; rfl), by rw [Q3.out.1], rfl⟩
            · have q4 : ((i : Int) == 9) = false := by simp; omega
              have q3 : bad = false := by rw [hbad]; exact decide_eq_false (by omega)
              have ix : i = i := rfl
              have xx : x = x := rfl
              have Q3 := Lib.hid (And.intro q3 (And.intro ix xx))
              clear x0 i0 i9 q3 ix xx hbad
              go_wp2_with (fail)
              go_meet
              exact ⟨by first | rfl | (rw [Q3.out.2.1]; done) | (rw [Q3.out.2.1]; rfl), by first | rfl | (rw [Q3.out.2.2]; done) | (rw [Q3.out.2.2]; rfl), by rw [Q3.out.1], rfl⟩
        · have q2 : ¬ (0 : Int) < (i : Int) := by omega
          have q4 : ((i : Int) == 9) = false := by simp; omega
          have q3 : bad = false := by rw [hbad]; exact decide_eq_false (by omega)
          have ix : i = 0 := by omega
          have xx : x = x := rfl
          have Q3 := Lib.hid (And.intro q3 (And.intro ix xx))
          clear i0 q3 ix xx hbad
          go_wp2_with (fail)
          go_meet
          exact ⟨by first | rfl | (rw [Q3.out.2.1]; done) | (rw [Q3.out.2.1]; rfl), by first | rfl | (rw [Q3.out.2.2]; done) | (rw [Q3.out.2.2]; rfl), by rw [Q3.out.1], rfl⟩
      case rest =>
        obtain ⟨rfl, rfl, rfl, rfl⟩ := hcut
        clear hbad
        have hstep := HS.out
        rw [← HBAD.out] at hstep
        clear HS
        cases bad with
        | true =>
          rw [if_pos rfl] at hstep
          have HR := Lib.hid hstep
          clear hstep
          go_wp2_with (fail)
          go_step3
          exact .inl ⟨rfl, rfl, rfl, rfl, rfl, 11, 0, [], by decide, rfl, HR.out⟩
        | false =>
          obtain ⟨hin, hacc, hil⟩ := HI.out
          obtain ⟨hlt, hx256⟩ := HLT.out
          obtain ⟨y, hy⟩ : ∃ y, y = x % 128 := ⟨_, rfl⟩
          have hand : bits .andNot .u8 (x : Int) 128 = (y : Int) := by rw [hy]; exact andNot8 ⟨x, hx256⟩
          have hcv : ∀ w, (convert 5 77 (.int .u8 (y : Int))).run Tryd.prog w = .ok (.int .u64 (y : Int)) w := fun w => by
            simp [convert, Conv.intToInt, run_underlying Tryd.underlying5, run_underlying Tryd.underlying77, wrapU64 y (by omega)]
          have i9 : (i : Int) ≤ 9 := by omega
          rw [if_neg (by decide), ← hy] at hstep
          have hbf : ¬ ((x = 0 ∧ 0 < i) ∨ (i = 9 ∧ 1 < x)) := of_decide_eq_false HBAD.out.symm
          obtain ⟨z, hz⟩ : ∃ z, z = y * 128 ^ i := ⟨_, rfl⟩
          rw [← hz] at hstep
          obtain ⟨U, hU⟩ : ∃ U, U = 128 ^ i := ⟨_, rfl⟩
          have hpos : 0 < U := by rw [hU]; exact Nat.pow_pos (by decide)
          have hzb : z ≤ 127 * U := by rw [hz, hU]; exact Nat.mul_le_mul_right _ (by omega)
          have hsum : acc + z < 18446744073709551616 ∧ (i < 9 → acc + z < 128 ^ (i + 1)) := by
            rcases Nat.lt_or_ge i 9 with h9 | h9
            · have h1 : 128 ^ (i + 1) ≤ 128 ^ 9 := Nat.pow_le_pow_right (by decide) (by omega)
              rw [Nat.pow_succ, ← hU, p9] at h1
              rw [Nat.pow_succ, ← hU]
              omega
            · have : i = 9 := by omega
              subst this
              have h2 : z ≤ 1 * U := by rw [hz, hU]; exact Nat.mul_le_mul_right _ (by omega)
              rw [p9] at hU
              omega
          have hshl : IntKind.u64.wrap ((y : Int) * 2 ^ (7 * i)) = (z : Int) := by
            have e : (y : Int) * 2 ^ (7 * i) = (z : Int) := by
              rw [hz, Int.natCast_mul, Int.natCast_pow, Int.pow_mul]
              rfl
            rw [e, wrapU64 z (by omega)]
          obtain ⟨a2, ha2⟩ : ∃ a, a = acc + z := ⟨_, rfl⟩
          have hor : bits .or .u64 (acc : Int) (z : Int) = (a2 : Int) := by
            rw [ha2]
            refine or_sum acc z (7 * i) y (by rw [hz, Nat.pow_mul]; exact Nat.mul_comm _ _) ?_ (by omega)
            rw [Nat.pow_mul]
            exact hacc
          rw [← ha2] at hstep hsum
          obtain ⟨j, hj⟩ : ∃ j, j = i + 1 := ⟨_, rfl⟩
          have ej : (i : Int) + 1 = (j : Int) := by omega
          have hjn : j ≤ n := by omega
          obtain ⟨sa, hsa⟩ : ∃ sa, sa = if c = j then (some ⟨ab, off, none⟩ : Option Addr) else (some (⟨ab, off, none⟩ : Addr)).map (·.add j) := ⟨_, rfl⟩
          obtain ⟨sn, hsn⟩ : ∃ sn, sn = n - j := ⟨_, rfl⟩
          obtain ⟨sc, hsc⟩ : ∃ sc, sc = c - j := ⟨_, rfl⟩
          have hsl : ∀ w, (Instr.slice 29 (.slice (some ⟨ab, off, none⟩) n c) (some (.int .i64 (j : Int))) none none).run Tryd.prog w = .ok (.slice sa sn sc) w := fun w => by
            rw [hsa, hsn, hsc]
            exact run_slice_sl_any 29 5 Tryd.underlying29 (fun w => Tryd.sizeOf5 w) (some ⟨ab, off, none⟩) n c j hjn w
          rw [← hj] at hstep hsum
          have HJ := Lib.hid (And.intro hsa (And.intro hsn (And.intro hsc (And.intro hjn (And.intro hj (And.intro hsum hin))))))
          by_cases hx1 : x < 128
          · have x1 : ¬ (128 : Int) ≤ (x : Int) := by omega
            rw [if_pos hx1] at hstep
            have HR := Lib.hid hstep
            clear hx1 hstep hin hacc hil hlt hx256 hy hbf hz hU hpos hzb hsum ha2 hj hjn hsa hsn hsc
            go_wp2_with (fail)
            simp only [Exit.jumps]
            go_ret
            obtain ⟨hb, hn, hnc, hcm, hac, hsr, hte, hlen⟩ := HX.out
            obtain ⟨hsa, hsn, hsc, hjn, hj, hsum, hin⟩ := HJ.out
            have he0 : t.e = 0 := by
              by_cases h : t.e = 0
              · exact h
              · have h2 := hte h
                rw [h2] at hn
                simp at hn
                omega
            rw [tapeWord_ok he0 HR.out]
            have hg := grown_setCell wc b 0 (.slice sa sn sc)
            refine ⟨rfl, ⟨sa, sn, sc, ?_, ?_, by omega, by omega, ?_, ?_, fun h => (h rfl).elim, ?_⟩, hg⟩
            · have := heap_setCell_same wc b 0 _ _ (.slice sa sn sc) hb
              rw [he0] at this
              exact this
            · show sn = (t.s.drop j).length
              rw [List.length_drop, hsn, hn]
            · intro h
              rw [hsa] at h
              split at h <;> cases h
            · have := (hsr.grown hg).drop j c (by omega) (by omega)
              rw [← hsa] at this
              exact this
            · show (t.s.drop j).length ≤ _
              rw [List.length_drop]
              omega
          · have x1 : (128 : Int) ≤ (x : Int) := by omega
            rw [if_neg hx1] at hstep
            have hi9 : i < 9 := by omega
            obtain ⟨n2, hn2⟩ : ∃ n2, n' = n2 + 1 := ⟨n' - 1, by omega⟩
            rw [hn2] at hstep
            have HR := Lib.hid (And.intro hstep (And.intro hn2 (And.intro hi9 hil)))
            clear hx1 hstep hin hacc hil hlt hx256 hy hbf hz hU hpos hzb hsum ha2 hj hjn hsa hsn hsc hi9 hn2
            go_wp2_with (fail)
            go_step3
            obtain ⟨hsa, hsn, hsc, hjn, hj, hsum, hin⟩ := HJ.out
            have hn := HN.out
            refine .inr ⟨rfl, ⟨rfl, rfl, rfl, rfl, rfl, j, n2, a2, ?_, ?_, ?_, rfl, rfl, ?_⟩, ?_⟩
            · have := HR.out.2.1
              omega
            · exact hsum.2 HR.out.2.2.1
            · omega
            · exact HR.out.1.symm
            · simp [rmeasure, intOf]
              omega
    · obtain rfl : i = n := by omega
      have ei : ((i : Int) == (i : Int)) = true := by simp
      have hr : rdW 10 0 0 t.s = (10, 0, []) := by
        rw [← hrd, hn, List.drop_length]
        rfl
      have HR := Lib.hid hr
      clear hb hn hnc hcm hac hsr hte hlen hlt hr hrd hin hacc hil
      go_wp2_with (fail)
      go_step3
      exact .inl ⟨rfl, rfl, rfl, rfl, rfl, 10, 0, [], by decide, rfl, HR.out⟩
  · intro hp
    go_wp2_with (fail)
    go_step3
    simp only [Exit.then]
    rename_i K hK
    refine hK _ _ (hp _ _ ?_)
    exact ⟨rfl, rfl, rfl, rfl, rfl, 0, 9, 0, rfl, by decide, Nat.zero_le _, rfl, rfl, rfl⟩
end Go.Proofs.YtmjanplhgpcbeaaDoor
