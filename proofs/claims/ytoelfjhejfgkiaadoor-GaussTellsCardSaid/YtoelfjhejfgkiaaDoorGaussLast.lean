/-
  The contract of strings.LastIndexAny at a text of layer 4 and its two signs.
-/
import Derived.Test.YtoelfjhejfgkiaaDoorGaussPut
namespace Go.Proofs.YtoelfjhejfgkiaaDoor
open Go Go.RowKit

theorem gl_bv (l : List UInt8) (j : Nat) (c : UInt8) (h : l[j]? = some c) : gl (bvL l) j = BitVec.ofNat 8 c.toNat := by
  unfold gl bvL
  rw [List.getD_eq_getElem?_getD, List.getElem?_map, h]
  rfl
theorem B_bv (c : UInt8) : B (BitVec.ofNat 8 c.toNat) = .int .u8 (c.toNat : Int) := by
  have := c.toNat_lt
  simp [B]
/-- Signs' own text. -/
def signsV : Value := .string ⟨#[43, 45]⟩
theorem index_sign (c : UInt8) : (Sign c → 0 ≤ Lib.indexByte [43, 45] c) ∧ (¬ Sign c → ¬ 0 ≤ Lib.indexByte [43, 45] c) := by
  unfold Sign
  by_cases h1 : c = 43
  · subst h1; decide
  · by_cases h2 : c = 45
    · subst h2; decide
    · have e1 : ((43 : UInt8) == c) = false := by simpa using fun h => h1 h.symm
      have e2 : ((45 : UInt8) == c) = false := by simpa using fun h => h2 h.symm
      have e3 : Lib.indexByte [43, 45] c = -1 := by simp [Lib.indexByte, e1, e2]
      rw [e3]
      simp [h1, h2]
theorem run_conv_u8_i32 (w : World) (c : UInt8) : (convert 5 21 (.int .u8 (c.toNat : Int))).run Tryd.prog w = .ok (.int .i32 (c.toNat : Int)) w := by
  have := c.toNat_lt
  simp [convert, Conv.intToInt, run_underlying Tryd.underlying5, run_underlying Tryd.underlying21, IntKind.wrap, IntKind.bits, IntKind.signed]
  omega
set_option maxRecDepth 100000 in
/-- Of a string that ends with an ASCII byte: that byte. -/
theorem dlast_ascii (w : World) (l : List UInt8) (n : Nat) (c : UInt8) (hn : l.length = n + 1) (hc : l[n]? = some c) (h128 : c.toNat < 128) (hsz : n < 1000) :
    Calls Tryd.prog 48 #[Sv (bvL l)] w fun e w' => e = .returned (.tuple #[.int .i32 (c.toNat : Int), .int .i64 1]) ∧ w' = w := by
  obtain ⟨V, hV⟩ : ∃ V, V = Sv (bvL l) := ⟨_, rfl⟩
  have hlen : ∀ ty w, (Builtin.len_ #[9] ty #[V]).run Tryd.prog w = .ok (.int .i64 ((n + 1 : Nat) : Int)) w := fun ty w => by rw [hV, run_len_Sv, bvL_length, hn]
  have hix : ∀ w, (Instr.index 9 V (.int .i64 (n : Int))).run Tryd.prog w = .ok (.int .u8 (c.toNat : Int)) w := fun w => by rw [hV, run_index_Sv w _ n (by rw [bvL_length]; omega), gl_bv l n c hc, B_bv]
  have hcv := fun w => run_conv_u8_i32 w c
  obtain ⟨x, hx⟩ : ∃ x : Nat, x = c.toNat := ⟨_, rfl⟩
  rw [← hx] at hix hcv h128 ⊢
  rw [← hV]
  obtain ⟨N, hN⟩ : ∃ N : Int, N = ((n + 1 : Nat) : Int) := ⟨_, rfl⟩
  rw [← hN] at hlen
  have e1 : (N == 0) = false := by rw [beq_eq_false_iff_ne]; omega
  have e2 : N - 1 = (n : Int) := by omega
  have e3 : wrap64 (n : Int) = (n : Int) := by unfold wrap64; omega
  have e4 : (x : Int) < 128 := by omega
  clear hV hn hc hx hN h128 hsz
  go_enter Tryd.func48, Tryd.ntmps48
  go_wp2_with (fail)

  refine bodyPost_ret (results_tmp2 rfl _ _ _) rfl ?_
  exact ⟨rfl, rfl⟩
set_option maxRecDepth 100000 in
theorem useSet_any (w : World) (n : Int) : Calls Tryd.prog 45 #[.int .i64 n] w fun e w' => e = .returned (.bool (decide (8 < n))) ∧ w' = w := by
  go_enter Tryd.func45, Tryd.ntmps45
  go_wp2_with (fail)
  go_ret
  exact ⟨rfl, rfl⟩
theorem rune_any (w : World) (c : UInt8) (h : c.toNat < 128) : Calls Tryd.prog 44 #[.string ⟨#[43, 45]⟩, .int .i32 (c.toNat : Int)] w fun e w' => e = .returned (.int .i64 (Lib.indexByte [43, 45] c)) ∧ w' = w := by
  have := Tryd.strings_IndexRune_ascii ⟨#[43, 45]⟩ (c.toNat : Int) w (by omega) (by omega)
  rw [show ((c.toNat : Int).toNat.toUInt8) = c by simp] at this
  exact this
theorem intOf_int (k : IntKind) (z : Int) : intOf (.int k z) = z := rfl
def LastRel (k L : Nat) (w0 : World) (v : Value) (wr : World) : Prop := ∃ i : Nat, k < i ∧ i ≤ L ∧ v = .int .i64 (i : Int) ∧ wr = w0
set_option maxRecDepth 100000 in
theorem last_short (w : World) (l : List UInt8) (k : Nat) (hk : k < l.length) (hs : l.length ≤ 8) (h2 : 2 ≤ l.length) (h128 : ∀ c ∈ l, c.toNat < 128) (hsg : ∀ c, l[k]? = some c → Sign c) (hno : ∀ j c, k < j → l[j]? = some c → ¬ Sign c) :
    Calls Tryd.prog 32 #[Sv (bvL l), .string ⟨#[43, 45]⟩] w (Below0 w (.int .i64 (k : Int))) := by
  obtain ⟨V, hV⟩ : ∃ V, V = Sv (bvL l) := ⟨_, rfl⟩
  obtain ⟨N, hN⟩ : ∃ N : Int, N = (l.length : Int) := ⟨_, rfl⟩
  have hlen : ∀ ty w, (Builtin.len_ #[9] ty #[V]).run Tryd.prog w = .ok (.int .i64 N) w := fun ty w => by rw [hV, run_len_Sv, bvL_length, hN]
  have htk : Hid (∀ n : Nat, n < l.length → ∀ w, (Instr.slice 9 V none (some (.int .i64 ((n : Int) + 1))) none).run Tryd.prog w = .ok (Sv (bvL (l.take (n + 1)))) w) := Lib.hid (fun n hn w => by
    have := run_take_Sv w (bvL l) (n + 1) (by rw [bvL_length]; omega)
    rw [bvL_take, Int.natCast_add] at this
    rw [hV]
    exact this)
  have hus : Hid (∀ w, Calls Tryd.prog 45 #[.int .i64 N] w fun e w' => e = .returned (.bool false) ∧ w' = w) := Lib.hid (fun w => by
    have := useSet_any w N
    rw [decide_eq_false (by omega)] at this
    exact this)
  have e1 : (N == 1) = false := by rw [beq_eq_false_iff_ne]; omega
  rw [← hV]
  have HH := Lib.hid (And.intro hk (And.intro hs (And.intro h128 (And.intro hsg (And.intro hno hN)))))
  clear hk hs h2 h128 hsg hno hN hV
  go_enter Tryd.func32, Tryd.ntmps32
  go_wp2_with (fail)
  refine (hus.out _).mono ?_
  rintro e w1 ⟨rfl, hw1⟩
  subst w1
  dsimp only
  go_wp2_with (fail)
  go_loopw [13] (LastRel k l.length w) (fun v _ => (intOf v).toNat)
  case atStart => exact ⟨l.length, HH.out.1, Nat.le_refl _, by rw [HH.out.2.2.2.2.2], rfl⟩
  case round =>
    obtain ⟨i, hi, hil, rfl, hwr⟩ := hrel
    subst wr
    obtain ⟨n, rfl⟩ : ∃ n, i = n + 1 := ⟨i - 1, by omega⟩
    obtain ⟨c, hc⟩ : ∃ c, l[n]? = some c := ⟨l[n]'(by omega), List.getElem?_eq_getElem (by omega)⟩
    have hc128 := HH.out.2.2.1 c (List.mem_of_getElem? hc)
    have HD := Lib.hid (fun w => dlast_ascii w (l.take (n + 1)) n c (by rw [List.length_take]; omega) (by rw [List.getElem?_take_of_lt (by omega)]; exact hc) hc128 (by have := HH.out.2.1; omega))
    have HR := Lib.hid (fun w => rune_any w c hc128)
    have hsl := htk.out n (by omega)
    obtain ⟨V2, hV2⟩ : ∃ V, V = Sv (bvL (l.take (n + 1))) := ⟨_, rfl⟩
    rw [← hV2] at hsl
    simp only [← hV2] at HD
    obtain ⟨I, hI⟩ : ∃ I : Int, I = (n : Int) + 1 := ⟨_, rfl⟩
    rw [← hI] at hsl
    rw [show (((n + 1 : Nat)) : Int) = I by omega]
    have d1 : (0 : Int) < I := by omega
    have d2 : I - 1 = (n : Int) := by omega
    have d3 : wrap64 (n : Int) = (n : Int) := by have := HH.out.2.1; unfold wrap64; omega
    obtain ⟨x, hx⟩ : ∃ x, x = Lib.indexByte [43, 45] c := ⟨_, rfl⟩
    have hsgx := index_sign c
    rw [← hx] at hsgx
    simp only [← hx] at HR
    obtain ⟨y, hy⟩ : ∃ y : Int, y = (c.toNat : Int) := ⟨_, rfl⟩
    simp only [← hy] at HR HD
    by_cases hnk : n = k
    · subst hnk
      have d4 : 0 ≤ x := hsgx.1 (HH.out.2.2.2.1 c hc)
      clear hi hil hc hc128 hV2 hI hx hy hsgx
      go_wp2_with (fail)
      refine (HD.out _).mono ?_
      rintro e w1 ⟨rfl, hw1⟩
      subst w1
      dsimp only
      go_wp2_with (fail)
      refine (HR.out _).mono ?_
      rintro e w1 ⟨rfl, hw1⟩
      subst w1
      dsimp only
      go_wp2_with (fail)
      go_ret
      exact ⟨congrArg (fun z => Ending.returned (.int .i64 z)) d3, Below.refl _ _⟩
    · have d4 : ¬ 0 ≤ x := hsgx.2 (HH.out.2.2.2.2.1 n c (by omega) hc)
      have HZ : Hid (LastRel k l.length w (.int .i64 (wrap64 (n : Int))) w ∧ I = (n : Int) + 1 ∧ (wrap64 (n : Int)).toNat < I.toNat) := ⟨⟨n, by omega, by omega, by rw [d3], rfl⟩, hI, by rw [d3]; omega⟩
      clear hi hil hc hc128 hV2 hI hx hy hsgx hnk
      go_wp2_with (fail)
      refine (HD.out _).mono ?_
      rintro e w1 ⟨rfl, hw1⟩
      subst w1
      dsimp only
      go_wp2_with (fail)
      refine (HR.out _).mono ?_
      rintro e w1 ⟨rfl, hw1⟩
      subst w1
      dsimp only
      go_wp2_with (fail)
      refine ⟨HZ.out.1, ?_⟩
      rw [intOf_int, intOf_int]
      exact HZ.out.2.2
theorem zero256 : Tryd.zeroCells85 = Array.replicate 256 (.bool false) := by kernel_rfl
theorem makeSet_any (w : World) : Calls Tryd.prog 46 #[.string ⟨#[43, 45]⟩] w fun e w' => e = .returned (.tuple #[.agg (Lib.setCells [43, 45]), .bool true]) ∧ w' = w.alloc (.cells (Lib.setCells [43, 45]) 85) := by
  refine Tryd.strings_makeASCIISet (fun w => by rw [Tryd.zeroValue85, zero256]) ⟨#[43, 45]⟩ w (by decide) (fun j b h => ?_)
  have hm : b ∈ [(43 : UInt8), 45] := List.mem_of_getElem? h
  simp only [List.mem_cons, List.not_mem_nil, or_false] at hm
  rcases hm with rfl | rfl <;> decide
theorem set_sign (c : UInt8) : [(43 : UInt8), 45].contains c = decide (Sign c) := by
  by_cases h : Sign c
  · rw [decide_eq_true h]
    rcases h with rfl | rfl <;> decide
  · rw [decide_eq_false h]
    unfold Sign at h
    simpa using h
def LongRel (k L : Nat) (w0 : World) (v : Value) (wr : World) : Prop := ∃ i : Nat, k ≤ i ∧ i < L ∧ v = .int .i64 (i : Int) ∧ wr = w0
set_option maxRecDepth 100000 in
theorem last_long (w : World) (l : List UInt8) (k : Nat) (hk : k < l.length) (hs : 8 < l.length) (h2 : l.length < 1000) (hsg : ∀ c, l[k]? = some c → Sign c) (hno : ∀ j c, k < j → l[j]? = some c → ¬ Sign c) :
    Calls Tryd.prog 32 #[Sv (bvL l), .string ⟨#[43, 45]⟩] w (Below0 w (.int .i64 (k : Int))) := by
  obtain ⟨V, hV⟩ : ∃ V, V = Sv (bvL l) := ⟨_, rfl⟩
  obtain ⟨N, hN⟩ : ∃ N : Int, N = (l.length : Int) := ⟨_, rfl⟩
  have hlen : ∀ ty w, (Builtin.len_ #[9] ty #[V]).run Tryd.prog w = .ok (.int .i64 N) w := fun ty w => by rw [hV, run_len_Sv, bvL_length, hN]
  have hix : Hid (∀ (n : Nat) (c : UInt8), l[n]? = some c → ∀ w, (Instr.index 9 V (.int .i64 (n : Int))).run Tryd.prog w = .ok (.int .u8 (c.toNat : Int)) w) := Lib.hid (fun n c hc w => by
    rw [hV, run_index_Sv w _ n (by rw [bvL_length]; exact (List.getElem?_eq_some_iff.1 hc).1), gl_bv l n c hc, B_bv])
  have hus : Hid (∀ w, Calls Tryd.prog 45 #[.int .i64 N] w fun e w' => e = .returned (.bool true) ∧ w' = w) := Lib.hid (fun w => by
    have := useSet_any w N
    rw [decide_eq_true (by omega)] at this
    exact this)
  have e1 : (N == 1) = false := by rw [beq_eq_false_iff_ne]; omega
  obtain ⟨M, hM⟩ : ∃ M : Int, M = N - 1 := ⟨_, rfl⟩
  have e2 : N - 1 = M := hM.symm
  have e3 : wrap64 M = M := by unfold wrap64; omega
  have HW : Hid (wrap64 M = ((l.length - 1 : Nat) : Int)) := by
    refine Lib.hid ?_
    rw [e3]
    omega
  rw [← hV]
  have HH := Lib.hid (And.intro hk (And.intro hs (And.intro h2 (And.intro hsg (And.intro hno hN)))))
  have HS := Lib.hid makeSet_any
  obtain ⟨cs, hcs⟩ : ∃ cs, cs = Lib.setCells [43, 45] := ⟨_, rfl⟩
  have hat : ∀ x : UInt8, cs[x.toNat]? = some (.bool (decide (Sign x))) := fun x => by rw [hcs, Lib.setCells_at, set_sign]
  have hsz : cs.size = 256 := by rw [hcs]; exact Lib.setCells_size _
  have hone : cs.all (·.oneCell') = true := by rw [hcs]; exact Lib.setCells_one _
  simp only [← hcs] at HS
  have hz : Tryd.zeroCells85.size = cs.size := by rw [zero256, hsz]; simp
  have hsc : ∀ w1 : World, (storeCells ⟨w1.heap.size, 0, none⟩ cs.toList).run Tryd.prog (w1.alloc (.cells Tryd.zeroCells85 85)) = .ok () (w1.alloc (.cells cs 85)) := fun w1 => run_storeCells_new w1 85 _ cs (by rw [hsz]; rfl) hz hone
  have HC := Lib.hid hat
  clear hk hs h2 hsg hno hN hV hM hcs hat hone e3 hz
  go_enter Tryd.func32, Tryd.ntmps32
  go_wp2_with (fail)
  refine (hus.out _).mono ?_
  rintro e w1 ⟨rfl, hw1⟩
  subst w1
  dsimp only
  go_wp2_with (fail)
  refine (HS.out _).mono ?_
  rintro e w1 ⟨rfl, hw1⟩
  have HW1 := Lib.hid hw1
  clear hw1
  dsimp only
  go_wp2_with (fail)
  obtain ⟨wf, hwf⟩ : ∃ W, W = w1.alloc (.cells cs 85) := ⟨_, rfl⟩
  obtain ⟨sb, hsb⟩ : ∃ b, b = w1.heap.size := ⟨_, rfl⟩
  rw [← hwf, ← hsb]
  have HF : Hid ((∀ x : UInt8, wf.cell? ⟨sb, x.toNat, none⟩ = some (.bool (decide (Sign x)))) ∧ Below w.heap.size w wf) := by
    refine ⟨fun x => ?_, ?_⟩
    · rw [hwf, hsb, cell_of_row _ _ _ _ _ _ (heap_alloc_new w1 _)]
      exact HC.out x
    · have hB1 : Below w.heap.size w w1 := by rw [HW1.out]; exact (Below.refl _ w).alloc (Nat.le_refl _) _
      rw [hwf]
      exact hB1.alloc hB1.size _
  clear hwf hsb hsc hsz
  go_loopw [8] (LongRel k l.length wf) (fun v _ => (intOf v + 1).toNat)
  case atStart => exact ⟨l.length - 1, by have := HH.out.1; omega, by have := HH.out.1; omega, by rw [HW.out], rfl⟩
  case round =>
    obtain ⟨i, hi, hil, rfl, hwr⟩ := hrel
    subst wr
    obtain ⟨c, hc⟩ : ∃ c, l[i]? = some c := ⟨l[i]'(by omega), List.getElem?_eq_getElem (by omega)⟩
    have hsl := hix.out i c hc
    have HR := Lib.hid (Tryd.asciiSet_contains sb c _ wf (HF.out.1 c))
    obtain ⟨I, hI⟩ : ∃ I : Int, I = (i : Int) := ⟨_, rfl⟩
    rw [← hI] at hsl
    rw [← hI]
    have d1 : (0 : Int) ≤ I := by omega
    obtain ⟨J, hJ⟩ : ∃ J : Int, J = I - 1 := ⟨_, rfl⟩
    have d2 : I - 1 = J := hJ.symm
    have d3 : wrap64 J = J := by have := HH.out.2.2.1; unfold wrap64; omega
    obtain ⟨y, hy⟩ : ∃ y : Int, y = (c.toNat : Int) := ⟨_, rfl⟩
    rw [← hy] at HR hsl
    by_cases hnk : i = k
    · rw [decide_eq_true (HH.out.2.2.2.1 c (by rw [← hnk]; exact hc))] at HR
      rw [← hnk, ← hI]
      clear hi hil hc hI hy hnk hJ d2 d3
      go_wp2_with (fail)
      refine HR.out.mono ?_
      rintro e w2 ⟨rfl, hw2⟩
      subst w2
      dsimp only
      go_wp2_with (fail)
      go_ret
      exact ⟨rfl, HF.out.2⟩
    · rw [decide_eq_false (HH.out.2.2.2.2.1 i c (by omega) hc)] at HR
      have HZ : Hid (LongRel k l.length wf (.int .i64 (wrap64 J)) wf ∧ (wrap64 J + 1).toNat < (I + 1).toNat) := ⟨⟨i - 1, by omega, by omega, by rw [d3]; congr 1; omega, rfl⟩, by rw [d3]; omega⟩
      clear hi hil hc hI hy hnk hJ d3
      go_wp2_with (fail)
      refine HR.out.mono ?_
      rintro e w2 ⟨rfl, hw2⟩
      subst w2
      dsimp only
      go_wp2_with (fail)
      refine ⟨HZ.out.1, ?_⟩
      rw [intOf_int, intOf_int]
      exact HZ.out.2
set_option maxRecDepth 100000 in
theorem last_text (w : World) (u v : Int) (h : InP u v) : Calls Tryd.prog 32 #[Sv (bvL (textB u v)), .string ⟨#[43, 45]⟩] w (Below0 w (.int .i64 ((Lib.itoa u).length : Int))) := by
  unfold InP at h
  have h1 := itoa_len u (by omega)
  have h2 := digits_pos v.natAbs
  have h3 := digits_len 9 v.natAbs (by omega)
  have h4 := text_len u v
  by_cases hs : (textB u v).length ≤ 8
  · exact last_short w _ _ (by omega) hs (by omega) (text_bytes u v) (fun c hc => by rw [text_sign] at hc; cases hc; exact sign_is v) (fun j c hj hc => text_after u v j c hj hc)
  · exact last_long w _ _ (by omega) (by omega) (by omega) (fun c hc => by rw [text_sign] at hc; cases hc; exact sign_is v) (fun j c hj hc => text_after u v j c hj hc)
end Go.Proofs.YtoelfjhejfgkiaaDoor
