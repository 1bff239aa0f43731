/-
  GaussTells, whatever it is called with.
-/
import Derived.Test.YtoelfjhejfgkiaaDoorGaussRot
import Derived.Test.YtoelfjhejfgkiaaDoorHeld
import Derived.Test.YtoelfjhejfgkiaaDoorLocalSeq
import Derived.Deep.QuietTactic
import Derived.BigQuiet
namespace Go.Proofs.YtoelfjhejfgkiaaDoor
open Go Go.RowKit Ieee

def rooms3 (P0 P1 R0 R1 : Value) (n0 n1 : Int) : List Room := [⟨8, 11, 3, #[.float .f64 0, .float .f64 0], #[P0, P1], 23⟩, ⟨9, 12, 4, #[.float .f64 0, .float .f64 0], #[R0, R1], 23⟩, ⟨10, 13, 5, #[.int .i64 0, .int .i64 0], #[.int .i64 n0, .int .i64 n1], 24⟩]
theorem rooms3_ok (P0 P1 R0 R1 : Value) (n0 n1 : Int) : roomsB (rooms3 P0 P1 R0 R1 n0 n1) = true ∧ ∀ x ∈ rooms3 P0 P1 R0 R1 n0 n1, ∀ y ∈ rooms3 P0 P1 R0 R1 n0 n1, x.ai = y.ai → x = y := by
  refine ⟨rfl, fun x hx y hy h => ?_⟩
  simp only [rooms3, List.mem_cons, List.not_mem_nil, or_false] at hx hy
  rcases hx with rfl | rfl | rfl <;> rcases hy with rfl | rfl | rfl <;> first | rfl | (simp at h)
def rooms5 (ra rb : Bool) : List Room := [⟨5, 6, 9, #[.bool false, .bool false], #[.bool ra, .bool rb], 30⟩]
theorem rooms5_ok (ra rb : Bool) : roomsB (rooms5 ra rb) = true ∧ ∀ x ∈ rooms5 ra rb, ∀ y ∈ rooms5 ra rb, x.ai = y.ai → x = y := by
  refine ⟨rfl, fun x hx y hy h => ?_⟩
  simp only [rooms5, List.mem_cons, List.not_mem_nil, or_false] at hx hy
  rw [hx, hy]
theorem turn_fix (q : Int) : ∃ Z, CRep Z (turnP q).1 (turnP q).2 ∧ ∀ w, Calls Tryd.prog 12 #[.int .i64 q] w fun e w' => e = .returned Z ∧ w' = w := by
  have h := bits_and3 q
  obtain ⟨r, hr⟩ : ∃ r, r = q % 4 := ⟨_, rfl⟩
  rw [← hr] at h
  have hr4 : r = 0 ∨ r = 1 ∨ r = 2 ∨ r = 3 := by omega
  have HT := Lib.hid hr
  clear hr
  rcases hr4 with rfl | rfl | rfl | rfl
  · refine ⟨.complex .f64 4607182418800017408 0, ⟨_, _, rfl, ?_⟩, fun w => ?_⟩
    · rw [turnP, if_pos HT.out.symm]
      exact ⟨frep_one, frep_0⟩
    · go_enter Tryd.func12, Tryd.ntmps12
      go_wp2_with (fail)
      go_ret
      exact ⟨rfl, rfl⟩
  · refine ⟨.complex .f64 0 4607182418800017408, ⟨_, _, rfl, ?_⟩, fun w => ?_⟩
    · rw [turnP, ← HT.out]
      exact ⟨frep_0, frep_one⟩
    · go_enter Tryd.func12, Tryd.ntmps12
      go_wp2_with (fail)
      go_ret
      exact ⟨rfl, rfl⟩
  · refine ⟨.complex .f64 13830554455654793216 0, ⟨_, _, rfl, ?_⟩, fun w => ?_⟩
    · rw [turnP, ← HT.out]
      exact ⟨frep_mone, frep_0⟩
    · go_enter Tryd.func12, Tryd.ntmps12
      go_wp2_with (fail)
      go_ret
      exact ⟨rfl, rfl⟩
  · refine ⟨.complex .f64 0 13830554455654793216, ⟨_, _, rfl, ?_⟩, fun w => ?_⟩
    · rw [turnP, ← HT.out]
      exact ⟨frep_0, frep_mone⟩
    · go_enter Tryd.func12, Tryd.ntmps12
      go_wp2_with (fail)
      go_ret
      exact ⟨rfl, rfl⟩
theorem turnP_bd (q : Int) : (-1 ≤ (turnP q).1 ∧ (turnP q).1 ≤ 1) ∧ -1 ≤ (turnP q).2 ∧ (turnP q).2 ≤ 1 := by
  unfold turnP
  split
  · decide
  · split
    · decide
    · split <;> decide
def rooms18 (u0 u1 e0 e1 : Int) : List Room := [⟨14, 16, 17, #[.int .i64 0, .int .i64 0], #[.int .i64 u0, .int .i64 u1], 24⟩, ⟨15, 17, 18, #[.int .i64 0, .int .i64 0], #[.int .i64 e0, .int .i64 e1], 24⟩]
theorem rooms18_ok (u0 u1 e0 e1 : Int) : roomsB (rooms18 u0 u1 e0 e1) = true ∧ ∀ x ∈ rooms18 u0 u1 e0 e1, ∀ y ∈ rooms18 u0 u1 e0 e1, x.ai = y.ai → x = y := by
  refine ⟨rfl, fun x hx y hy h => ?_⟩
  simp only [rooms18, List.mem_cons, List.not_mem_nil, or_false] at hx hy
  rcases hx with rfl | rfl <;> rcases hy with rfl | rfl <;> first | rfl | (simp at h)
theorem same_of (a b : Int) (w : World) : Calls Tryd.prog 20 #[ofV a b, .int .i64 (ofE a b), .agg #[.int .i64 a, .int .i64 b]] w (Below0 w (.bool true)) := by
  by_cases h : InP a b
  · have := same_any w (numZ a b) a b 0 a b (CRep.of a b h)
    rw [sameB, if_pos h, decide_eq_true ⟨rfl, rfl, rfl⟩] at this
    rw [ofV, ofE, if_pos h, if_pos h]
    exact this
  · have := same_any w zeroZ 0 0 20 a b zeroZ_rep
    rw [sameB, if_neg h, decide_eq_true ⟨⟨rfl, rfl⟩, rfl⟩] at this
    rw [ofV, ofE, if_neg h, if_neg h]
    exact this
theorem vOfC_st {le : World → World → Prop} (Vs : List Value) : ∀ i w w' v, le w w' → vOfC Vs i w v → vOfC Vs i w' v := fun _ _ _ _ _ h => h
def FalseAt (W : World) (s : Value) (wx : World) : Prop := s = .bool false ∧ wx = W
theorem bool_of (p : Prop) : ∃ b : Bool, b = true ↔ p := by
  by_cases h : p
  · exact ⟨true, by simp [h]⟩
  · exact ⟨false, by simp [h]⟩
set_option maxRecDepth 100000 in
set_option maxHeartbeats 4000000 in
theorem gaussTells_any (w : World) (p0 p1 r0 r1 : Nat) (n0 n1 q : Int) (hn0 : -9223372036854775808 ≤ n0 ∧ n0 < 9223372036854775808) (hn1 : -9223372036854775808 ≤ n1 ∧ n1 < 9223372036854775808) (hT : PowTab w) :
    Calls Tryd.prog 3 #[.agg #[.float .f64 p0, .float .f64 p1, .float .f64 r0, .float .f64 r1, .int .i64 n0, .int .i64 n1, .int .i64 q]] w (Below0 w (.bool true)) := by
  obtain ⟨Pz, hP⟩ : ∃ P : Ending → World → Prop, P = Below0 w (.bool true) := ⟨_, rfl⟩
  rw [← hP]
  have HP := Lib.hid hP
  clear hP
  have HNN := Lib.hid (And.intro hn0 hn1)
  clear hn0 hn1
  obtain ⟨w1, hw1⟩ : ∃ W, W = w.alloc (.cells #[.float .f64 p0, .float .f64 p1, .float .f64 r0, .float .f64 r1, .int .i64 n0, .int .i64 n1, .int .i64 q] 26) := ⟨_, rfl⟩
  obtain ⟨cb, hcb⟩ : ∃ b, b = w.heap.size := ⟨_, rfl⟩
  obtain ⟨P0, hP0⟩ : ∃ P, P = Value.float .f64 p0 := ⟨_, rfl⟩
  obtain ⟨P1, hP1⟩ : ∃ P, P = Value.float .f64 p1 := ⟨_, rfl⟩
  obtain ⟨R0, hR0⟩ : ∃ P, P = Value.float .f64 r0 := ⟨_, rfl⟩
  obtain ⟨R1, hR1⟩ : ∃ P, P = Value.float .f64 r1 := ⟨_, rfl⟩
  have HV := Lib.hid (And.intro (And.intro hP0 hP1) (And.intro hR0 hR1))
  have HOne : Hid ((#[P0, P1] : Array Value).all (·.oneCell') = true ∧ (#[R0, R1] : Array Value).all (·.oneCell') = true) := by
    rw [hP0, hP1, hR0, hR1]
    exact Lib.hid ⟨by simp [Value.oneCell'], by simp [Value.oneCell']⟩
  have H1 : Hid (w1.heap[cb]? = some (.cells #[P0, P1, R0, R1, .int .i64 n0, .int .i64 n1, .int .i64 q] 26 (0, 0)) ∧ Below w.heap.size w w1) := by
    rw [hw1, hcb, hP0, hP1, hR0, hR1]
    exact Lib.hid ⟨heap_alloc_new w _, (Below.refl _ w).alloc (Nat.le_refl _) _⟩
  have HF := Lib.hid (gfirst_any w1 (hT.below H1.out.2))
  have HTab := Lib.hid hT
  clear hT
  go_enter Tryd.func3, Tryd.ntmps3
  go_upto_region 1 with (fail)
  rw [← hw1, ← hcb, ← hP0, ← hP1, ← hR0, ← hR1]
  clear hw1 hcb hP0 hP1 hR0 hR1
  go_wp2_with (fail)
  refine HF.out.mono ?_
  rintro e w2 ⟨rfl, hB2⟩
  obtain ⟨B1, hB1⟩ : ∃ b, b = w2.heap.size := ⟨_, rfl⟩
  have HG3 : Hid (Held w B1 [(cb, #[P0, P1, R0, R1, .int .i64 n0, .int .i64 n1, .int .i64 q], 26)] { w2 with drawn := w2.drawn + 1 }) := by
    have h0 : Held w w1.heap.size [(cb, #[P0, P1, R0, R1, .int .i64 n0, .int .i64 n1, .int .i64 q], 26)] w1 := ⟨fun x hx => by
      simp only [List.mem_singleton] at hx
      subst hx
      exact H1.out.1, H1.out.2, Nat.le_refl _⟩
    have h2 := (h0.grow hB2).drew
    rw [← hB1] at h2
    exact h2
  have HLt : Hid (w.heap.size ≤ B1 ∧ ∀ x ∈ [(cb, #[P0, P1, R0, R1, .int .i64 n0, .int .i64 n1, .int .i64 q], 26)], x.1 < B1) := by
    have := HG3.out.lt
    rw [hB1]
    exact this
  have HRm := Lib.hid (rooms3_ok P0 P1 R0 R1 n0 n1)
  clear hB2 hB1
  dsimp only
  go_upto_region 3 with (fail)
  refine wp_region_joint (by kernel_rfl) (vOpt [some (.pointer (some ⟨cb, 0, none⟩)), some (.agg #[P0, P1]), some (.pointer (some ⟨cb, 2, none⟩)), some (.agg #[R0, R1]), some (.pointer (some ⟨cb, 4, none⟩)), some (.agg #[.int .i64 n0, .int .i64 n1]), some (.pointer (some ⟨cb, 6, none⟩)), some (.int .i64 q), none, none, none, none, none, none, some (.int .i64 q)]) (Held w B1 [(cb, #[P0, P1, R0, R1, .int .i64 n0, .int .i64 n1, .int .i64 q], 26)]) (Rooms B1 (rooms3 P0 P1 R0 R1 n0 n1)) (fun _ _ _ _ h => h) (by kernel_rfl) HG3.out (Rooms.none _ _ _ _) ⟨trivial, trivial, trivial, trivial, trivial, trivial, trivial, trivial, trivial, trivial, trivial, trivial, trivial, trivial, trivial, trivial⟩ ?_ ?_
  · refine ⟨?_, ?_, ?_, ?_, ?_, ?_, ?_, ?_, ?_, ?_, ?_, ?_, ?_, ?_, ?_, trivial⟩
    · intro L a w' hG hJ hsz hl hb hout hpre K hK
      clear hsz hl hb
      have q1 := ev_of ((hout 1 rfl).trans (show _ = .pointer (some ⟨cb, 0, none⟩) from rfl))
      clear hout hpre
      go_step
      exact hK _ _ rfl hG (hJ.pure 0 (some 24) _ rfl (Below.refl _ _))
    · intro L a w' hG hJ hsz hl hb hout hpre K hK
      clear hsz hl hb
      obtain ⟨p0, _⟩ := hpre
      have q24 := ev_of (show a.eval (.tmp 24) = .pointer (some ⟨cb, 0, none⟩) from p0)
      have hc0 : w'.cell? ⟨cb, 0, none⟩ = some (P0) := (hG.cell (b := cb) (cs := #[P0, P1, R0, R1, .int .i64 n0, .int .i64 n1, .int .i64 q]) (t := 26) (by simp) 0).trans rfl
      have hc1 : w'.cell? ⟨cb, 1, none⟩ = some (P1) := (hG.cell (b := cb) (cs := #[P0, P1, R0, R1, .int .i64 n0, .int .i64 n1, .int .i64 q]) (t := 26) (by simp) 1).trans rfl
      clear hout p0
      go_step
      exact hK _ _ rfl hG (hJ.pure 1 (some 25) _ rfl (Below.refl _ _))
    · intro L a w' hG hJ hsz hl hb hout hpre K hK
      clear hsz hl hb
      have q1 := ev_of ((hout 1 rfl).trans (show _ = .pointer (some ⟨cb, 0, none⟩) from rfl))
      clear hout hpre
      go_step
      exact hK _ _ rfl hG (hJ.pure 2 (some 26) _ rfl (Below.refl _ _))
    · intro L a w' hG hJ hsz hl hb hout hpre K hK
      clear hsz hl hb
      obtain ⟨p0, _⟩ := hpre
      have q26 := ev_of (show a.eval (.tmp 26) = .pointer (some ⟨cb, 2, none⟩) from p0)
      have hc0 : w'.cell? ⟨cb, 2, none⟩ = some (R0) := (hG.cell (b := cb) (cs := #[P0, P1, R0, R1, .int .i64 n0, .int .i64 n1, .int .i64 q]) (t := 26) (by simp) 2).trans rfl
      have hc1 : w'.cell? ⟨cb, 3, none⟩ = some (R1) := (hG.cell (b := cb) (cs := #[P0, P1, R0, R1, .int .i64 n0, .int .i64 n1, .int .i64 q]) (t := 26) (by simp) 3).trans rfl
      clear hout p0
      go_step
      exact hK _ _ rfl hG (hJ.pure 3 (some 27) _ rfl (Below.refl _ _))
    · intro L a w' hG hJ hsz hl hb hout hpre K hK
      clear hsz hl hb
      have q1 := ev_of ((hout 1 rfl).trans (show _ = .pointer (some ⟨cb, 0, none⟩) from rfl))
      clear hout hpre
      go_step
      exact hK _ _ rfl hG (hJ.pure 4 (some 28) _ rfl (Below.refl _ _))
    · intro L a w' hG hJ hsz hl hb hout hpre K hK
      clear hsz hl hb
      obtain ⟨p0, _⟩ := hpre
      have q28 := ev_of (show a.eval (.tmp 28) = .pointer (some ⟨cb, 4, none⟩) from p0)
      have hc0 : w'.cell? ⟨cb, 4, none⟩ = some (.int .i64 n0) := (hG.cell (b := cb) (cs := #[P0, P1, R0, R1, .int .i64 n0, .int .i64 n1, .int .i64 q]) (t := 26) (by simp) 4).trans rfl
      have hc1 : w'.cell? ⟨cb, 5, none⟩ = some (.int .i64 n1) := (hG.cell (b := cb) (cs := #[P0, P1, R0, R1, .int .i64 n0, .int .i64 n1, .int .i64 q]) (t := 26) (by simp) 5).trans rfl
      clear hout p0
      go_step
      exact hK _ _ rfl hG (hJ.pure 5 (some 29) _ rfl (Below.refl _ _))
    · intro L a w' hG hJ hsz hl hb hout hpre K hK
      clear hsz hl hb
      have q1 := ev_of ((hout 1 rfl).trans (show _ = .pointer (some ⟨cb, 0, none⟩) from rfl))
      clear hout hpre
      go_step
      exact hK _ _ rfl hG (hJ.pure 6 (some 30) _ rfl (Below.refl _ _))
    · intro L a w' hG hJ hsz hl hb hout hpre K hK
      clear hsz hl hb
      obtain ⟨p0, _⟩ := hpre
      have q30 := ev_of (show a.eval (.tmp 30) = .pointer (some ⟨cb, 6, none⟩) from p0)
      have hc : w'.cell? ⟨cb, 6, none⟩ = some (.int .i64 q) := (hG.cell (b := cb) (cs := #[P0, P1, R0, R1, .int .i64 n0, .int .i64 n1, .int .i64 q]) (t := 26) (by simp) 6).trans rfl
      clear hout p0
      go_step
      exact hK _ _ rfl hG (hJ.pure 7 (some 31) _ rfl (Below.refl _ _))
    · intro L a w' hG hJ hsz hl hb hout hpre K hK
      have HSz := Lib.hid hsz
      clear hout hpre hb hsz
      go_step
      exact hK _ _ trivial (hG.grow ((Below.refl _ w').alloc (Nat.le_refl _) _)) (hJ.alloc HRm.out.1 HRm.out.2 ⟨8, 11, 3, #[.float .f64 0, .float .f64 0], #[P0, P1], 23⟩ (by simp [rooms3]) hl (Nat.lt_of_lt_of_eq (show (3 : Nat) < 247 by decide) (HSz.out.trans (show _ = 247 from rfl)).symm) hG.2.2)
    · intro L a w' hG hJ hsz hl hb hout hpre K hK
      have HSz := Lib.hid hsz
      clear hout hpre hb hsz
      go_step
      exact hK _ _ trivial (hG.grow ((Below.refl _ w').alloc (Nat.le_refl _) _)) (hJ.alloc HRm.out.1 HRm.out.2 ⟨9, 12, 4, #[.float .f64 0, .float .f64 0], #[R0, R1], 23⟩ (by simp [rooms3]) hl (Nat.lt_of_lt_of_eq (show (4 : Nat) < 247 by decide) (HSz.out.trans (show _ = 247 from rfl)).symm) hG.2.2)
    · intro L a w' hG hJ hsz hl hb hout hpre K hK
      have HSz := Lib.hid hsz
      clear hout hpre hb hsz
      go_step
      exact hK _ _ trivial (hG.grow ((Below.refl _ w').alloc (Nat.le_refl _) _)) (hJ.alloc HRm.out.1 HRm.out.2 ⟨10, 13, 5, #[.int .i64 0, .int .i64 0], #[.int .i64 n0, .int .i64 n1], 24⟩ (by simp [rooms3]) hl (Nat.lt_of_lt_of_eq (show (5 : Nat) < 247 by decide) (HSz.out.trans (show _ = 247 from rfl)).symm) hG.2.2)
    · intro L a w' hG hJ hsz hl hb hout hpre K hK
      clear hsz
      obtain ⟨p0, p1, _⟩ := hpre
      have hai : L 8 = true := hb ⟨8, .data⟩ (by simp) (by decide)
      obtain ⟨g, h1, h2, h3, hR⟩ := hJ.store HRm.out.1 HRm.out.2 ⟨8, 11, 3, #[.float .f64 0, .float .f64 0], #[P0, P1], 23⟩ (by simp [rooms3]) hai hl
      refine wp_store_row 23 (.tmp 3) (.tmp 25) rfl g #[P0, P1] h1 p1 23 #[.float .f64 0, .float .f64 0] h3 (by kernel_rfl) rfl HOne.out.1 ?_
      exact hK _ _ trivial (hG.set (fun x hx => Nat.lt_of_lt_of_le (HLt.out.2 x hx) h2) (Nat.le_trans HLt.out.1 h2)) hR
    · intro L a w' hG hJ hsz hl hb hout hpre K hK
      clear hsz
      obtain ⟨p0, p1, _⟩ := hpre
      have hai : L 9 = true := hb ⟨9, .data⟩ (by simp) (by decide)
      obtain ⟨g, h1, h2, h3, hR⟩ := hJ.store HRm.out.1 HRm.out.2 ⟨9, 12, 4, #[.float .f64 0, .float .f64 0], #[R0, R1], 23⟩ (by simp [rooms3]) hai hl
      refine wp_store_row 23 (.tmp 4) (.tmp 27) rfl g #[R0, R1] h1 p1 23 #[.float .f64 0, .float .f64 0] h3 (by kernel_rfl) rfl HOne.out.2 ?_
      exact hK _ _ trivial (hG.set (fun x hx => Nat.lt_of_lt_of_le (HLt.out.2 x hx) h2) (Nat.le_trans HLt.out.1 h2)) hR
    · intro L a w' hG hJ hsz hl hb hout hpre K hK
      clear hsz
      obtain ⟨p0, p1, _⟩ := hpre
      have hai : L 10 = true := hb ⟨10, .data⟩ (by simp) (by decide)
      obtain ⟨g, h1, h2, h3, hR⟩ := hJ.store HRm.out.1 HRm.out.2 ⟨10, 13, 5, #[.int .i64 0, .int .i64 0], #[.int .i64 n0, .int .i64 n1], 24⟩ (by simp [rooms3]) hai hl
      refine wp_store_row 24 (.tmp 5) (.tmp 29) rfl g #[.int .i64 n0, .int .i64 n1] h1 p1 24 #[.int .i64 0, .int .i64 0] h3 (by kernel_rfl) rfl (by simp [Value.oneCell']) ?_
      exact hK _ _ trivial (hG.set (fun x hx => Nat.lt_of_lt_of_le (HLt.out.2 x hx) h2) (Nat.le_trans HLt.out.1 h2)) hR
    · intro L a w' hG hJ hsz hl hb hout hpre K hK
      clear hsz hl hb
      obtain ⟨p0, _⟩ := hpre
      have q31 := ev_of (show a.eval (.tmp 31) = .int .i64 q from p0)
      clear hout p0
      go_step
      exact hK _ _ rfl hG (hJ.pure 14 (some 6) _ rfl (Below.refl _ _))
  · intro vs a w2 hG hlen hV hJ
    match vs, hlen, hV with
    | [v0, v1, v2, v3, v4, v5, v6, v7, v8, v9, v10, v11, v12, v13, v14], _, hV =>
      obtain ⟨L, hR, hL⟩ := hJ
      obtain ⟨xb, e1, _, xbr⟩ := hR.1 ⟨8, 11, 3, #[.float .f64 0, .float .f64 0], #[P0, P1], 23⟩ (by simp [rooms3]) (hL 8 (by decide))
      have xbr := xbr
      simp only [hL 11 (by decide), if_true] at xbr
      obtain rfl : v8 = .pointer (some ⟨xb, 0, none⟩) := (hV 8 3 v8 rfl rfl).2.trans e1
      clear e1
      obtain ⟨yb, e1, _, ybr⟩ := hR.1 ⟨9, 12, 4, #[.float .f64 0, .float .f64 0], #[R0, R1], 23⟩ (by simp [rooms3]) (hL 9 (by decide))
      have ybr := ybr
      simp only [hL 12 (by decide), if_true] at ybr
      obtain rfl : v9 = .pointer (some ⟨yb, 0, none⟩) := (hV 9 4 v9 rfl rfl).2.trans e1
      clear e1
      obtain ⟨nb, e1, _, nbr⟩ := hR.1 ⟨10, 13, 5, #[.int .i64 0, .int .i64 0], #[.int .i64 n0, .int .i64 n1], 24⟩ (by simp [rooms3]) (hL 10 (by decide))
      have nbr := nbr
      simp only [hL 13 (by decide), if_true] at nbr
      obtain rfl : v10 = .pointer (some ⟨nb, 0, none⟩) := (hV 10 5 v10 rfl rfl).2.trans e1
      clear e1
      obtain rfl : v14 = .int .i64 q := (hV 14 6 v14 rfl rfl).1
      clear hV hR hL
      simp only [putsL, List.tail_cons, List.headD_cons]
      simp only [Act.put, List.setIfInBounds_toArray, List.set_cons_succ, List.set_cons_zero]
      have h4 := ((hG.more xbr).more ybr).more nbr
      have HG4 : Hid (Held w B1 [(nb, #[.int .i64 n0, .int .i64 n1], 24), (yb, #[R0, R1], 23), (xb, #[P0, P1], 23), (cb, #[P0, P1, R0, R1, .int .i64 n0, .int .i64 n1, .int .i64 q], 26)] { w2 with drawn := w2.drawn + 1 }) := Lib.hid h4.draw
      clear h4 hG xbr ybr nbr HLt HRm
      obtain ⟨X, hX⟩ : ∃ X, X = Value.complex .f64 p0 p1 := ⟨_, rfl⟩
      obtain ⟨Y, hY⟩ : ∃ Y, Y = Value.complex .f64 r0 r1 := ⟨_, rfl⟩
      have HCx : Hid ((∀ ts t w, (Builtin.complex_ ts t #[P0, P1]).run Tryd.prog w = .ok X w) ∧ (∀ ts t w, (Builtin.complex_ ts t #[R0, R1]).run Tryd.prog w = .ok Y w)) :=
        Lib.hid ⟨fun ts t w => by rw [HV.out.1.1, HV.out.1.2, hX]; exact run_complex w ts t .f64 _ _, fun ts t w => by rw [HV.out.2.1, HV.out.2.2, hY]; exact run_complex w ts t .f64 _ _⟩
      obtain ⟨ra, hra⟩ := bool_of (WholeF p0 ∧ WholeF p1)
      obtain ⟨rb, hrb⟩ := bool_of (WholeF r0 ∧ WholeF r1)
      have HWh : Hid ((∀ w, Calls Tryd.prog 7 #[.agg #[P0, P1]] w (Below0 w (.bool ra))) ∧ (∀ w, Calls Tryd.prog 7 #[.agg #[R0, R1]] w (Below0 w (.bool rb)))) := by
        rw [HV.out.1.1, HV.out.1.2, HV.out.2.1, HV.out.2.2]
        exact Lib.hid ⟨fun w => whole_any w p0 p1 ra hra, fun w => whole_any w r0 r1 rb hrb⟩
      have right_b : ∀ (a b : Nat) (c : Bool), (c = true ↔ WholeF a ∧ WholeF b) → ∀ w, Calls Tryd.prog 8 #[.complex .f64 a b] w (Below0 w (.bool c)) := fun a b c hc w => by
        cases c with
        | true =>
          obtain ⟨u, v, hz⟩ := WholeZ.of_whole (hc.1 rfl).1 (hc.1 rfl).2
          refine (right_yes w _ u v hz).mono ?_
          rintro e w' ⟨rfl, rfl⟩
          exact ⟨rfl, Below.refl _ _⟩
        | false => exact right_no w a b (fun h => by have := hc.2 h; cases this)
      have HRi : Hid ((∀ w, Calls Tryd.prog 8 #[X] w (Below0 w (.bool ra))) ∧ (∀ w, Calls Tryd.prog 8 #[Y] w (Below0 w (.bool rb)))) := by
        rw [hX, hY]
        exact Lib.hid ⟨right_b p0 p1 ra hra, right_b r0 r1 rb hrb⟩
      have HXY := Lib.hid (And.intro (And.intro hX hY) (And.intro hra hrb))
      clear hX hY hra hrb right_b
      go_upto_region 4 with (fail)
      refine wp_region_seq_frame (by kernel_rfl) [none, none, none, none, none, none, none, none, none, none, none, none] [] (vOfC [.pointer (some ⟨xb, 0, none⟩), P0, .pointer (some ⟨xb, 1, none⟩), P1, X, .pointer (some ⟨yb, 0, none⟩), R0, .pointer (some ⟨yb, 1, none⟩), R1, Y, X, Y]) (fun _ w' => Held w B1 [(nb, #[.int .i64 n0, .int .i64 n1], 24), (yb, #[R0, R1], 23), (xb, #[P0, P1], 23), (cb, #[P0, P1, R0, R1, .int .i64 n0, .int .i64 n1, .int .i64 q], 26)] w') (fun w w' => Below w.heap.size w w') (vOfC_st _) (by kernel_rfl) (by kernel_rfl) (by kernel_rfl) HG4.out ⟨trivial, trivial, trivial, trivial, trivial, trivial, trivial, trivial, trivial, trivial, trivial, trivial, trivial⟩ ?_ ?_
      · refine ⟨?_, ?_, ?_, ?_, ?_, ?_, ?_, ?_, ?_, ?_, ?_, ?_, trivial⟩
        · intro k a w' hG hout hpre K hK
          have q3 := ev_of ((hout 3 rfl).trans (show _ = .pointer (some ⟨xb, 0, none⟩) from rfl))
          clear hout hpre
          go_step
          exact hK _ _ rfl hG (Below.refl _ _)
        · intro k a w' hG hout hpre K hK
          obtain ⟨p0, _⟩ := hpre
          have q32 := ev_of (show a.eval (.tmp 32) = .pointer (some ⟨xb, 0, none⟩) from p0)
          have hc : w'.cell? ⟨xb, 0, none⟩ = some (P0) := (hG.cell (b := xb) (cs := #[P0, P1]) (t := 23) (by simp) 0).trans rfl
          clear hout p0
          go_step
          exact hK _ _ rfl hG (Below.refl _ _)
        · intro k a w' hG hout hpre K hK
          have q3 := ev_of ((hout 3 rfl).trans (show _ = .pointer (some ⟨xb, 0, none⟩) from rfl))
          clear hout hpre
          go_step
          exact hK _ _ rfl hG (Below.refl _ _)
        · intro k a w' hG hout hpre K hK
          obtain ⟨p0, _⟩ := hpre
          have q34 := ev_of (show a.eval (.tmp 34) = .pointer (some ⟨xb, 1, none⟩) from p0)
          have hc : w'.cell? ⟨xb, 1, none⟩ = some (P1) := (hG.cell (b := xb) (cs := #[P0, P1]) (t := 23) (by simp) 1).trans rfl
          clear hout p0
          go_step
          exact hK _ _ rfl hG (Below.refl _ _)
        · intro k a w' hG hout hpre K hK
          obtain ⟨p0, p1, _⟩ := hpre
          have q33 := ev_of (show a.eval (.tmp 33) = P0 from p0)
          have q35 := ev_of (show a.eval (.tmp 35) = P1 from p1)
          have hv := HCx.out.1
          clear hout p0 p1
          go_step
          exact hK _ _ rfl hG (Below.refl _ _)
        · intro k a w' hG hout hpre K hK
          have q4 := ev_of ((hout 4 rfl).trans (show _ = .pointer (some ⟨yb, 0, none⟩) from rfl))
          clear hout hpre
          go_step
          exact hK _ _ rfl hG (Below.refl _ _)
        · intro k a w' hG hout hpre K hK
          obtain ⟨p0, _⟩ := hpre
          have q37 := ev_of (show a.eval (.tmp 37) = .pointer (some ⟨yb, 0, none⟩) from p0)
          have hc : w'.cell? ⟨yb, 0, none⟩ = some (R0) := (hG.cell (b := yb) (cs := #[R0, R1]) (t := 23) (by simp) 0).trans rfl
          clear hout p0
          go_step
          exact hK _ _ rfl hG (Below.refl _ _)
        · intro k a w' hG hout hpre K hK
          have q4 := ev_of ((hout 4 rfl).trans (show _ = .pointer (some ⟨yb, 0, none⟩) from rfl))
          clear hout hpre
          go_step
          exact hK _ _ rfl hG (Below.refl _ _)
        · intro k a w' hG hout hpre K hK
          obtain ⟨p0, _⟩ := hpre
          have q39 := ev_of (show a.eval (.tmp 39) = .pointer (some ⟨yb, 1, none⟩) from p0)
          have hc : w'.cell? ⟨yb, 1, none⟩ = some (R1) := (hG.cell (b := yb) (cs := #[R0, R1]) (t := 23) (by simp) 1).trans rfl
          clear hout p0
          go_step
          exact hK _ _ rfl hG (Below.refl _ _)
        · intro k a w' hG hout hpre K hK
          obtain ⟨p0, p1, _⟩ := hpre
          have q38 := ev_of (show a.eval (.tmp 38) = R0 from p0)
          have q40 := ev_of (show a.eval (.tmp 40) = R1 from p1)
          have hv := HCx.out.2
          clear hout p0 p1
          go_step
          exact hK _ _ rfl hG (Below.refl _ _)
        · intro k a w' hG hout hpre K hK
          obtain ⟨p0, _⟩ := hpre
          have q36 := ev_of (show a.eval (.tmp 36) = X from p0)
          clear hout p0
          go_step
          exact hK _ _ rfl hG (Below.refl _ _)
        · intro k a w' hG hout hpre K hK
          obtain ⟨p0, _⟩ := hpre
          have q41 := ev_of (show a.eval (.tmp 41) = Y from p0)
          clear hout p0
          go_step
          exact hK _ _ rfl hG (Below.refl _ _)
      · intro vs w2 hG hlen hV
        match vs, hlen, hV with
        | [v0, v1, v2, v3, v4, v5, v6, v7, v8, v9, v10, v11], _, hV =>
          obtain rfl : X = v10 := (hV 10 7 v10 rfl rfl).symm
          obtain rfl : Y = v11 := (hV 11 8 v11 rfl rfl).symm
          clear hV
          simp only [putsL, List.tail_cons, List.headD_cons]
          simp only [Act.put, List.setIfInBounds_toArray, List.set_cons_succ, List.set_cons_zero]
          obtain ⟨B5, hB5⟩ : ∃ b, b = w2.heap.size := ⟨_, rfl⟩
          have HG5 := Lib.hid hG.drew
          rw [← hB5] at HG5
          have HLt := Lib.hid hG.lt
          rw [← hB5] at HLt
          have HRm := Lib.hid (rooms5_ok ra rb)
          clear hB5 hG HG4 HG3 HCx
          go_upto_region 5 with (fail)
          refine wp_region_joint (by kernel_rfl) (vOpt [some (.agg #[P0, P1]), some (.bool ra), some (.agg #[R0, R1]), some (.bool rb), some (.agg #[.bool ra, .bool rb]), none, none]) (Held w B5 [(nb, #[.int .i64 n0, .int .i64 n1], 24), (yb, #[R0, R1], 23), (xb, #[P0, P1], 23), (cb, #[P0, P1, R0, R1, .int .i64 n0, .int .i64 n1, .int .i64 q], 26)]) (Rooms B5 (rooms5 ra rb)) (fun _ _ _ _ h => h) (by kernel_rfl) HG5.out (Rooms.none _ _ _ _) ⟨trivial, trivial, trivial, trivial, trivial, trivial, trivial, trivial⟩ ?_ ?_
          · refine ⟨?_, ?_, ?_, ?_, ?_, ?_, ?_, trivial⟩
            · intro L a w' hG hJ hsz hl hb hout hpre K hK
              clear hsz hl hb
              have q3 := ev_of ((hout 3 rfl).trans (show _ = .pointer (some ⟨xb, 0, none⟩) from rfl))
              have hc0 : w'.cell? ⟨xb, 0, none⟩ = some (P0) := (hG.cell (b := xb) (cs := #[P0, P1]) (t := 23) (by simp) 0).trans rfl
              have hc1 : w'.cell? ⟨xb, 1, none⟩ = some (P1) := (hG.cell (b := xb) (cs := #[P0, P1]) (t := 23) (by simp) 1).trans rfl
              clear hout hpre
              go_step
              exact hK _ _ rfl hG (hJ.pure 0 (some 42) _ rfl (Below.refl _ _))
            · intro L a w' hG hJ hsz hl hb hout hpre K hK
              clear hsz hl hb
              obtain ⟨p0, _⟩ := hpre
              have q42 := ev_of (show a.eval (.tmp 42) = .agg #[P0, P1] from p0)
              have HS := Lib.hid (HWh.out.1 w')
              clear hout p0
              go_step
              refine HS.out.mono ?_
              rintro e w3 ⟨rfl, hB⟩
              exact hK _ _ rfl (hG.grow hB) (hJ.pure 1 (some 43) _ rfl hB)
            · intro L a w' hG hJ hsz hl hb hout hpre K hK
              clear hsz hl hb
              have q4 := ev_of ((hout 4 rfl).trans (show _ = .pointer (some ⟨yb, 0, none⟩) from rfl))
              have hc0 : w'.cell? ⟨yb, 0, none⟩ = some (R0) := (hG.cell (b := yb) (cs := #[R0, R1]) (t := 23) (by simp) 0).trans rfl
              have hc1 : w'.cell? ⟨yb, 1, none⟩ = some (R1) := (hG.cell (b := yb) (cs := #[R0, R1]) (t := 23) (by simp) 1).trans rfl
              clear hout hpre
              go_step
              exact hK _ _ rfl hG (hJ.pure 2 (some 44) _ rfl (Below.refl _ _))
            · intro L a w' hG hJ hsz hl hb hout hpre K hK
              clear hsz hl hb
              obtain ⟨p0, _⟩ := hpre
              have q44 := ev_of (show a.eval (.tmp 44) = .agg #[R0, R1] from p0)
              have HS := Lib.hid (HWh.out.2 w')
              clear hout p0
              go_step
              refine HS.out.mono ?_
              rintro e w3 ⟨rfl, hB⟩
              exact hK _ _ rfl (hG.grow hB) (hJ.pure 3 (some 45) _ rfl hB)
            · intro L a w' hG hJ hsz hl hb hout hpre K hK
              clear hsz hl hb
              obtain ⟨p0, p1, _⟩ := hpre
              have q43 := ev_of (show a.eval (.tmp 43) = .bool ra from p0)
              have q45 := ev_of (show a.eval (.tmp 45) = .bool rb from p1)
              clear hout p0 p1
              go_step
              exact hK _ _ rfl hG (hJ.pure 4 (some 46) _ rfl (Below.refl _ _))
            · intro L a w' hG hJ hsz hl hb hout hpre K hK
              have HSz := Lib.hid hsz
              clear hout hpre hb hsz
              go_step
              exact hK _ _ trivial (hG.grow ((Below.refl _ w').alloc (Nat.le_refl _) _)) (hJ.alloc HRm.out.1 HRm.out.2 ⟨5, 6, 9, #[.bool false, .bool false], #[.bool ra, .bool rb], 30⟩ (by simp [rooms5]) hl (Nat.lt_of_lt_of_eq (show (9 : Nat) < 247 by decide) (HSz.out.trans (show _ = 247 from rfl)).symm) hG.2.2)
            · intro L a w' hG hJ hsz hl hb hout hpre K hK
              clear hsz
              obtain ⟨p0, p1, _⟩ := hpre
              have hai : L 5 = true := hb ⟨5, .data⟩ (by simp) (by decide)
              obtain ⟨g, h1, h2, h3, hR⟩ := hJ.store HRm.out.1 HRm.out.2 ⟨5, 6, 9, #[.bool false, .bool false], #[.bool ra, .bool rb], 30⟩ (by simp [rooms5]) hai hl
              refine wp_store_row 30 (.tmp 9) (.tmp 46) rfl g #[.bool ra, .bool rb] h1 p1 30 #[.bool false, .bool false] h3 (by kernel_rfl) rfl (by simp [Value.oneCell']) ?_
              exact hK _ _ trivial (hG.set (fun x hx => Nat.lt_of_lt_of_le (HLt.out.2 x hx) h2) (Nat.le_trans HLt.out.1 h2)) hR
          · intro vs a w2 hG hlen hV hJ
            match vs, hlen, hV with
            | [v0, v1, v2, v3, v4, v5, v6], _, hV =>
              obtain ⟨L, hR, hL⟩ := hJ
              obtain ⟨rk, e1, _, rkr⟩ := hR.1 ⟨5, 6, 9, #[.bool false, .bool false], #[.bool ra, .bool rb], 30⟩ (by simp [rooms5]) (hL 5 (by decide))
              have rkr := rkr
              simp only [hL 6 (by decide), if_true] at rkr
              obtain rfl : v5 = .pointer (some ⟨rk, 0, none⟩) := (hV 5 9 v5 rfl rfl).2.trans e1
              clear e1
              clear hV hR hL
              simp only [putsL, List.tail_cons, List.headD_cons]
              simp only [Act.put, List.setIfInBounds_toArray, List.set_cons_succ, List.set_cons_zero]
              have HG6 := Lib.hid ((hG.more rkr).draw)
              clear hG rkr HLt HRm HG5
              go_upto_region 6 with (fail)
              refine wp_region_seq_frame (by kernel_rfl) [none, none, none, none, none, none, none, none, none, none, none, none] [] (vOfC [X, .bool ra, .pointer (some ⟨rk, 0, none⟩), .bool ra, .bool false, .bool false, Y, .bool rb, .pointer (some ⟨rk, 1, none⟩), .bool rb, .bool false, .bool false]) (fun _ w' => Held w B5 [(rk, #[.bool ra, .bool rb], 30), (nb, #[.int .i64 n0, .int .i64 n1], 24), (yb, #[R0, R1], 23), (xb, #[P0, P1], 23), (cb, #[P0, P1, R0, R1, .int .i64 n0, .int .i64 n1, .int .i64 q], 26)] w') (fun w w' => Below w.heap.size w w') (vOfC_st _) (by kernel_rfl) (by kernel_rfl) (by kernel_rfl) HG6.out ⟨trivial, trivial, trivial, trivial, trivial, trivial, fun _ _ h => h, fun _ _ h => h, fun _ _ h => h, fun _ _ h => h, fun _ _ h => h, trivial, trivial⟩ ?_ ?_
              · refine ⟨?_, ?_, ?_, ?_, ?_, ?_, ?_, ?_, ?_, ?_, ?_, ?_, trivial⟩
                · intro k a w' hG hout hpre K hK
                  have q7 := ev_of ((hout 7 rfl).trans (show _ = X from rfl))
                  clear hout hpre
                  go_step
                  exact hK _ _ rfl hG (Below.refl _ _)
                · intro k a w' hG hout hpre K hK
                  obtain ⟨p0, _⟩ := hpre
                  have q47 := ev_of (show a.eval (.tmp 47) = X from p0)
                  have HS := Lib.hid (HRi.out.1 w')
                  clear hout p0
                  go_step
                  refine HS.out.mono ?_
                  rintro e w3 ⟨rfl, hB⟩
                  exact hK _ _ rfl (hG.grow hB) hB
                · intro k a w' hG hout hpre K hK
                  have q9 := ev_of ((hout 9 rfl).trans (show _ = .pointer (some ⟨rk, 0, none⟩) from rfl))
                  clear hout hpre
                  go_step
                  exact hK _ _ rfl hG (Below.refl _ _)
                · intro k a w' hG hout hpre K hK
                  obtain ⟨p0, _⟩ := hpre
                  have q49 := ev_of (show a.eval (.tmp 49) = .pointer (some ⟨rk, 0, none⟩) from p0)
                  have hc : w'.cell? ⟨rk, 0, none⟩ = some (.bool ra) := (hG.cell (b := rk) (cs := #[.bool ra, .bool rb]) (t := 30) (by simp) 0).trans rfl
                  clear hout p0
                  go_step
                  exact hK _ _ rfl hG (Below.refl _ _)
                · intro k a w' hG hout hpre K hK
                  obtain ⟨p0, p1, _⟩ := hpre
                  have q48 := ev_of (show a.eval (.tmp 48) = .bool ra from p0)
                  have q50 := ev_of (show a.eval (.tmp 50) = .bool ra from p1)
                  have hne : ∀ w, (binOp .neq 4 (.bool ra) (.bool ra)).run Tryd.prog w = .ok (.bool false) w := fun w => by cases ra <;> rfl
                  clear hout p0 p1
                  go_step
                  exact hK _ _ rfl hG (Below.refl _ _)
                · intro k a w' hG hout hpre K hK
                  obtain ⟨p0, _⟩ := hpre
                  have q51 := ev_of (show a.eval (.tmp 51) = .bool false from p0)
                  clear hout p0
                  go_step
                  exact hK _ _ rfl hG (Below.refl _ _)
                · intro k a w' hG hout hpre K hK
                  have q8 := ev_of ((hout 8 rfl).trans (show _ = Y from rfl))
                  clear hout hpre
                  go_step
                  exact hK _ _ rfl hG (Below.refl _ _)
                · intro k a w' hG hout hpre K hK
                  obtain ⟨p0, _⟩ := hpre
                  have q53 := ev_of (show a.eval (.tmp 53) = Y from p0)
                  have HS := Lib.hid (HRi.out.2 w')
                  clear hout p0
                  go_step
                  refine HS.out.mono ?_
                  rintro e w3 ⟨rfl, hB⟩
                  exact hK _ _ rfl (hG.grow hB) hB
                · intro k a w' hG hout hpre K hK
                  have q9 := ev_of ((hout 9 rfl).trans (show _ = .pointer (some ⟨rk, 0, none⟩) from rfl))
                  clear hout hpre
                  go_step
                  exact hK _ _ rfl hG (Below.refl _ _)
                · intro k a w' hG hout hpre K hK
                  obtain ⟨p0, _⟩ := hpre
                  have q55 := ev_of (show a.eval (.tmp 55) = .pointer (some ⟨rk, 1, none⟩) from p0)
                  have hc : w'.cell? ⟨rk, 1, none⟩ = some (.bool rb) := (hG.cell (b := rk) (cs := #[.bool ra, .bool rb]) (t := 30) (by simp) 1).trans rfl
                  clear hout p0
                  go_step
                  exact hK _ _ rfl hG (Below.refl _ _)
                · intro k a w' hG hout hpre K hK
                  obtain ⟨p0, p1, _⟩ := hpre
                  have q54 := ev_of (show a.eval (.tmp 54) = .bool rb from p0)
                  have q56 := ev_of (show a.eval (.tmp 56) = .bool rb from p1)
                  have hne : ∀ w, (binOp .neq 4 (.bool rb) (.bool rb)).run Tryd.prog w = .ok (.bool false) w := fun w => by cases rb <;> rfl
                  clear hout p0 p1
                  go_step
                  exact hK _ _ rfl hG (Below.refl _ _)
                · intro k a w' hG hout hpre K hK
                  obtain ⟨p0, p1, _⟩ := hpre
                  have q52 := ev_of (show a.eval (.tmp 52) = .bool false from p0)
                  have q57 := ev_of (show a.eval (.tmp 57) = .bool false from p1)
                  clear hout p0 p1
                  go_step
                  exact hK _ _ rfl hG (Below.refl _ _)
              · intro vs w2 hG hlen hV
                match vs, hlen, hV with
                | [v0, v1, v2, v3, v4, v5, v6, v7, v8, v9, v10, v11], _, hV =>
                  obtain rfl : v11 = .bool false := hV 11 58 v11 rfl rfl
                  clear hV
                  simp only [putsL, List.tail_cons, List.headD_cons]
                  simp only [Act.put, List.setIfInBounds_toArray, List.set_cons_succ, List.set_cons_zero]
                  have dn0 : w2.cell? ⟨nb, 0, none⟩ = some (.int .i64 n0) := (hG.cell (b := nb) (cs := #[.int .i64 n0, .int .i64 n1]) (t := 24) (by simp) 0).trans rfl
                  have dn1 : w2.cell? ⟨nb, 1, none⟩ = some (.int .i64 n1) := (hG.cell (b := nb) (cs := #[.int .i64 n0, .int .i64 n1]) (t := 24) (by simp) 1).trans rfl
                  have HH := Lib.hid hG
                  clear hG HG6 HWh HOne
                  have HOf := Lib.hid (fun w => of_any w n0 n1)
                  obtain ⟨Zo, hZo⟩ : ∃ Z, Z = ofV n0 n1 := ⟨_, rfl⟩
                  obtain ⟨Eo, hEo⟩ : ∃ Z, Z = ofE n0 n1 := ⟨_, rfl⟩
                  simp only [← hZo, ← hEo] at HOf
                  have HZo := Lib.hid (And.intro hZo hEo)
                  clear hZo hEo
                  go_wp2_with (fail)
                  refine (HOf.out _).mono ?_
                  rintro e w' ⟨rfl, hw'⟩
                  subst w'
                  dsimp only
                  go_upto_region 9 with (fail)
                  go_cut [101] from 67 to 101 (fun s wx => FalseAt w2 s wx)
                  case first =>
                    have HIn := Lib.hid (fun w => grIn_any w n0 n1)
                    by_cases hin : InP n0 n1
                    · obtain ⟨hZ, hE⟩ := HZo.out
                      rw [ofV, if_pos hin] at hZ
                      rw [ofE, if_pos hin] at hE
                      obtain rfl : Eo = 0 := hE
                      have hne : ∀ t w, (binOp .neq t Zo Zo).run Tryd.prog w = .ok (.bool false) w := fun t w => by
                        rw [hZ]
                        have := (CRep.of n0 n1 hin).neq (CRep.of n0 n1 hin) t w
                        rw [decide_eq_true ⟨rfl, rfl⟩] at this
                        exact this
                      have hgd : ∀ op t o1 o2 w, (eqGuard op t o1 o2 Zo Zo).run Tryd.prog w = .ok () w := fun op t o1 o2 w => by rw [hZ]; cases op <;> rfl
                      obtain ⟨fa, hfa⟩ : ∃ V, V = Value.float .f64 (fOf n0) := ⟨_, rfl⟩
                      obtain ⟨fb, hfb⟩ : ∃ V, V = Value.float .f64 (fOf n1) := ⟨_, rfl⟩
                      have hca : ∀ w, (convert 3 22 (.int .i64 n0)).run Tryd.prog w = .ok fa w := fun w => by rw [hfa]; exact run_conv_int_f64 w Tryd.underlying3 Tryd.underlying22
                      have hcb : ∀ w, (convert 3 22 (.int .i64 n1)).run Tryd.prog w = .ok fb w := fun w => by rw [hfb]; exact run_conv_int_f64 w Tryd.underlying3 Tryd.underlying22
                      have hcc : ∀ ts t w, (Builtin.complex_ ts t #[fa, fb]).run Tryd.prog w = .ok Zo w := fun ts t w => by rw [hfa, hfb, hZ]; exact run_complex w ts t .f64 _ _
                      rw [show inB n0 n1 = true from decide_eq_true hin] at HIn
                      clear hin hZ hfa hfb
                      go_wp2_with (fail)
                      refine (HIn.out _).mono ?_
                      rintro e w' ⟨rfl, hw'⟩
                      subst w'
                      dsimp only
                      go_wp2_with (fail)
                      go_meet
                      exact ⟨rfl, rfl⟩
                    · obtain ⟨hZ, hE⟩ := HZo.out
                      rw [ofV, if_neg hin] at hZ
                      rw [ofE, if_neg hin] at hE
                      obtain rfl : Eo = 20 := hE
                      have hne : ∀ t w, (binOp .neq t Zo (.complex .f64 0 0)).run Tryd.prog w = .ok (.bool false) w := fun t w => by
                        rw [hZ]
                        have := zeroZ_rep.neq zeroZ_rep t w
                        rw [decide_eq_true ⟨rfl, rfl⟩] at this
                        exact this
                      have hgd : ∀ op t o1 o2 w, (eqGuard op t o1 o2 Zo (.complex .f64 0 0)).run Tryd.prog w = .ok () w := fun op t o1 o2 w => by rw [hZ]; cases op <;> rfl
                      rw [show inB n0 n1 = false from decide_eq_false hin] at HIn
                      clear hin hZ
                      go_wp2_with (fail)
                      refine (HIn.out _).mono ?_
                      rintro e w' ⟨rfl, hw'⟩
                      subst w'
                      dsimp only
                      go_wp2_with (fail)
                      go_meet
                      exact ⟨rfl, rfl⟩
                  case rest =>
                    obtain ⟨rfl, hwc⟩ := hcut
                    subst wc
                    clear dn0 dn1 HOf HZo
                    obtain ⟨t0, ht0⟩ : ∃ t, t = (turnP q).1 := ⟨_, rfl⟩
                    obtain ⟨t1, ht1⟩ : ∃ t, t = (turnP q).2 := ⟨_, rfl⟩
                    have HTr := Lib.hid (fun w => grTurn_any w q)
                    unfold pairV at HTr
                    rw [← ht0, ← ht1] at HTr
                    have HTT := Lib.hid (And.intro ht0 ht1)
                    clear ht0 ht1
                    go_wp2_with (fail)
                    refine (HTr.out _).mono ?_
                    rintro e w5 ⟨rfl, hB⟩
                    have H5 := Lib.hid (HH.out.grow hB)
                    clear hB HH HTr
                    dsimp only
                    iterate 4 go_step
                    refine wpList_store_row rfl _ _ _ rfl w5.heap.size #[.int .i64 t0, .int .i64 t1] rfl rfl 24 #[.int .i64 0, .int .i64 0] (heap_alloc_new w5 _) (by kernel_rfl) rfl (by simp [Value.oneCell']) ?_
                    rw [World.setRow_alloc_new]
                    obtain ⟨w6, hw6⟩ : ∃ W, W = w5.alloc (.cells #[.int .i64 t0, .int .i64 t1] 24) := ⟨_, rfl⟩
                    obtain ⟨tb, htb⟩ : ∃ b, b = w5.heap.size := ⟨_, rfl⟩
                    rw [← hw6, ← htb]
                    have h6 : Held w B5 [(tb, #[.int .i64 t0, .int .i64 t1], 24), (rk, #[.bool ra, .bool rb], 30), (nb, #[.int .i64 n0, .int .i64 n1], 24), (yb, #[R0, R1], 23), (xb, #[P0, P1], 23), (cb, #[P0, P1, R0, R1, .int .i64 n0, .int .i64 n1, .int .i64 q], 26)] w6 := by
                      rw [hw6, htb]
                      exact (H5.out.grow ((Below.refl _ w5).alloc (Nat.le_refl _) _)).more (heap_alloc_new w5 _)
                    have HG12 := Lib.hid h6.draw
                    clear hw6 htb h6 H5
                    obtain ⟨Zt, hZt, htu⟩ := turn_fix q
                    rw [← HTT.out.1, ← HTT.out.2] at hZt
                    have htb0 := turnP_bd q
                    rw [← HTT.out.1, ← HTT.out.2] at htb0
                    have hint : InP t0 t1 := by unfold InP; omega
                    have HTu := Lib.hid htu
                    obtain ⟨Zc, hZc⟩ : ∃ Z, Z = numZ t0 t1 := ⟨_, rfl⟩
                    have hneq : ∀ t w, (binOp .neq t Zt Zc).run Tryd.prog w = .ok (.bool false) w := fun t w => by
                      rw [hZc]
                      have := hZt.neq (CRep.of t0 t1 hint) t w
                      rw [decide_eq_true ⟨rfl, rfl⟩] at this
                      exact this
                    have hgdq : ∀ op t o1 o2 w, (eqGuard op t o1 o2 Zt Zc).run Tryd.prog w = .ok () w := fun op t o1 o2 w => by rw [hZc]; exact hZt.guard (CRep.of t0 t1 hint) op t o1 o2 w
                    have HNq := Lib.hid (And.intro hneq hgdq)
                    obtain ⟨ft0, hft0⟩ : ∃ V, V = Value.float .f64 (fOf t0) := ⟨_, rfl⟩
                    obtain ⟨ft1, hft1⟩ : ∃ V, V = Value.float .f64 (fOf t1) := ⟨_, rfl⟩
                    have HCt : Hid ((∀ w, (convert 3 22 (.int .i64 t0)).run Tryd.prog w = .ok ft0 w) ∧ (∀ w, (convert 3 22 (.int .i64 t1)).run Tryd.prog w = .ok ft1 w) ∧ ∀ ts t w, (Builtin.complex_ ts t #[ft0, ft1]).run Tryd.prog w = .ok Zc w) := by
                      rw [hft0, hft1, hZc]
                      exact Lib.hid ⟨fun w => run_conv_int_f64 w Tryd.underlying3 Tryd.underlying22, fun w => run_conv_int_f64 w Tryd.underlying3 Tryd.underlying22, fun ts t w => run_complex w ts t .f64 _ _⟩
                    clear hZt htu htb0 hint hZc hneq hgdq hft0 hft1
                    go_upto_region 12 with (fail)
                    refine wp_region_seq_frame (by kernel_rfl) [none, none, none, none, none, none, none, none, none, none] [] (vOfC [.int .i64 q, Zt, .pointer (some ⟨tb, 0, none⟩), .int .i64 t0, ft0, .pointer (some ⟨tb, 1, none⟩), .int .i64 t1, ft1, Zc, .bool false]) (fun _ w' => Held w B5 [(tb, #[.int .i64 t0, .int .i64 t1], 24), (rk, #[.bool ra, .bool rb], 30), (nb, #[.int .i64 n0, .int .i64 n1], 24), (yb, #[R0, R1], 23), (xb, #[P0, P1], 23), (cb, #[P0, P1, R0, R1, .int .i64 n0, .int .i64 n1, .int .i64 q], 26)] w') (fun w w' => Below w.heap.size w w') (vOfC_st _) (by kernel_rfl) (by kernel_rfl) (by kernel_rfl) HG12.out ⟨trivial, trivial, trivial, trivial, trivial, trivial, trivial, trivial, trivial, trivial, trivial⟩ ?_ ?_
                    · refine ⟨?_, ?_, ?_, ?_, ?_, ?_, ?_, ?_, ?_, ?_, trivial⟩
                      · intro k a w' hG hout hpre K hK
                        have q6 := ev_of ((hout 6 rfl).trans (show _ = .int .i64 q from rfl))
                        clear hout hpre
                        go_step
                        exact hK _ _ rfl hG (Below.refl _ _)
                      · intro k a w' hG hout hpre K hK
                        obtain ⟨p0, _⟩ := hpre
                        have q104 := ev_of (show a.eval (.tmp 104) = .int .i64 q from p0)
                        have HS := Lib.hid (HTu.out w')
                        clear hout p0
                        go_step
                        refine HS.out.mono ?_
                        rintro e w3 ⟨rfl, hw3⟩
                        subst w3
                        exact hK _ _ rfl hG (Below.refl _ _)
                      · intro k a w' hG hout hpre K hK
                        have q12 := ev_of ((hout 12 rfl).trans (show _ = .pointer (some ⟨tb, 0, none⟩) from rfl))
                        clear hout hpre
                        go_step
                        exact hK _ _ rfl hG (Below.refl _ _)
                      · intro k a w' hG hout hpre K hK
                        obtain ⟨p0, _⟩ := hpre
                        have q106 := ev_of (show a.eval (.tmp 106) = .pointer (some ⟨tb, 0, none⟩) from p0)
                        have hc : w'.cell? ⟨tb, 0, none⟩ = some (.int .i64 t0) := (hG.cell (b := tb) (cs := #[.int .i64 t0, .int .i64 t1]) (t := 24) (by simp) 0).trans rfl
                        clear hout p0
                        go_step
                        exact hK _ _ rfl hG (Below.refl _ _)
                      · intro k a w' hG hout hpre K hK
                        obtain ⟨p0, _⟩ := hpre
                        have q107 := ev_of (show a.eval (.tmp 107) = .int .i64 t0 from p0)
                        have hv := HCt.out.1
                        clear hout p0
                        go_step
                        exact hK _ _ rfl hG (Below.refl _ _)
                      · intro k a w' hG hout hpre K hK
                        have q12 := ev_of ((hout 12 rfl).trans (show _ = .pointer (some ⟨tb, 0, none⟩) from rfl))
                        clear hout hpre
                        go_step
                        exact hK _ _ rfl hG (Below.refl _ _)
                      · intro k a w' hG hout hpre K hK
                        obtain ⟨p0, _⟩ := hpre
                        have q109 := ev_of (show a.eval (.tmp 109) = .pointer (some ⟨tb, 1, none⟩) from p0)
                        have hc : w'.cell? ⟨tb, 1, none⟩ = some (.int .i64 t1) := (hG.cell (b := tb) (cs := #[.int .i64 t0, .int .i64 t1]) (t := 24) (by simp) 1).trans rfl
                        clear hout p0
                        go_step
                        exact hK _ _ rfl hG (Below.refl _ _)
                      · intro k a w' hG hout hpre K hK
                        obtain ⟨p0, _⟩ := hpre
                        have q110 := ev_of (show a.eval (.tmp 110) = .int .i64 t1 from p0)
                        have hv := HCt.out.2.1
                        clear hout p0
                        go_step
                        exact hK _ _ rfl hG (Below.refl _ _)
                      · intro k a w' hG hout hpre K hK
                        obtain ⟨p0, p1, _⟩ := hpre
                        have q108 := ev_of (show a.eval (.tmp 108) = ft0 from p0)
                        have q111 := ev_of (show a.eval (.tmp 111) = ft1 from p1)
                        have hv := HCt.out.2.2
                        clear hout p0 p1
                        go_step
                        exact hK _ _ rfl hG (Below.refl _ _)
                      · intro k a w' hG hout hpre K hK
                        obtain ⟨p0, p1, _⟩ := hpre
                        have q105 := ev_of (show a.eval (.tmp 105) = Zt from p0)
                        have q112 := ev_of (show a.eval (.tmp 112) = Zc from p1)
                        have hn1 := HNq.out.1
                        have hn2 := HNq.out.2
                        clear hout p0 p1
                        go_step
                        exact hK _ _ rfl hG (Below.refl _ _)
                    · intro vs w2 hG hlen hV
                      match vs, hlen, hV with
                      | [v0, v1, v2, v3, v4, v5, v6, v7, v8, v9], _, hV =>
                        obtain rfl : v9 = .bool false := hV 9 113 v9 rfl rfl
                        clear hV
                        simp only [putsL, List.tail_cons, List.headD_cons]
                        simp only [Act.put, List.setIfInBounds_toArray, List.set_cons_succ, List.set_cons_zero]
                        have H13 := Lib.hid hG
                        clear hG HG12 HTu HNq HCt HTT
                        go_upto_region 14 with (fail)
                        cases ra with
                        | false =>
                          have HNo : Hid (NotZ X) := ⟨p0, p1, HXY.out.1.1, fun h => by have := HXY.out.2.1.2 h; cases this⟩
                          have hno : ¬ (WholeF p0 ∧ WholeF p1) ∨ ¬ (WholeF r0 ∧ WholeF r1) := .inl (fun h => by have := HXY.out.2.1.2 h; cases this)
                          have HAd : Hid (∀ w, Calls Tryd.prog 13 #[X, Y] w (OpArg w)) := Lib.hid (fun w => by rw [HXY.out.1.1, HXY.out.1.2]; exact add_no w p0 p1 r0 r1 hno)
                          have HTm : Hid (∀ w, Calls Tryd.prog 14 #[X, Y] w (OpArg w)) := Lib.hid (fun w => by rw [HXY.out.1.1, HXY.out.1.2]; exact times_no w p0 p1 r0 r1 hno)
                          clear hno
                          obtain ⟨Z0, hZ0⟩ : ∃ Z, Z = zeroZ := ⟨_, rfl⟩
                          simp only [OpArg, ← hZ0] at HAd HTm
                          have hz : ∀ t w, (binOp .eql t Z0 (.complex .f64 0 0)).run Tryd.prog w = .ok (.bool true) w := fun t w => by
                            rw [hZ0]
                            have := zeroZ_rep.eql zeroZ_rep t w
                            rw [decide_eq_true ⟨rfl, rfl⟩] at this
                            exact this
                          have hgz : ∀ op t o1 o2 w, (eqGuard op t o1 o2 Z0 (.complex .f64 0 0)).run Tryd.prog w = .ok () w := fun op t o1 o2 w => by rw [hZ0]; cases op <;> rfl
                          clear hZ0
                          go_wp2_with (fail)
                          refine (HAd.out _).mono ?_
                          rintro e w7 ⟨rfl, hB⟩
                          have H14 := Lib.hid (H13.out.grow hB)
                          clear hB
                          dsimp only
                          go_wp2_with (fail)
                          refine (HTm.out _).mono ?_
                          rintro e w8 ⟨rfl, hB⟩
                          have H15 := Lib.hid (H14.out.grow hB)
                          clear hB
                          dsimp only
                          have dr0 : w8.cell? ⟨rk, 0, none⟩ = some (.bool false) := (H15.out.cell (b := rk) (cs := #[.bool false, .bool rb]) (t := 30) (by simp) 0).trans rfl
                          have dr1 : w8.cell? ⟨rk, 1, none⟩ = some (.bool rb) := (H15.out.cell (b := rk) (cs := #[.bool false, .bool rb]) (t := 30) (by simp) 1).trans rfl
                          have HE : Hid (Below w.heap.size w w8) := H15.out.2.1
                          go_wp2_with (fail)
                          refine (norm_no w8 X HNo.out).mono ?_
                          rintro e w9 ⟨rfl, hB⟩
                          have HE9 : Hid (Below w.heap.size w w9) := HE.out.trans (hB.mono HE.out.size)
                          clear hB dr0 dr1
                          dsimp only
                          go_wp2_with (fail)
                          refine (side_no w9 X HNo.out).mono ?_
                          rintro e w10 ⟨rfl, hB⟩
                          have HE10 : Hid (Below w.heap.size w w10) := HE9.out.trans (hB.mono HE9.out.size)
                          clear hB
                          dsimp only
                          go_wp2_with (fail)
                          have HTx : Hid (Calls Tryd.prog 17 #[X] w10 (Below0 w10 (.string ⟨#[]⟩))) := Lib.hid (text_no w10 X HNo.out)
                          refine HTx.out.mono ?_
                          rintro e w11 ⟨rfl, hB⟩
                          have HE11 : Hid (Below w.heap.size w w11) := HE10.out.trans (hB.mono HE10.out.size)
                          clear hB HE HE9 HE10 HTx
                          have HE := HE11
                          clear HE11
                          dsimp only
                          go_wp2_with (fail)
                          first
                          | (rw [HP.out]; exact ⟨rfl, HE.out⟩)
                          | (go_ret; rw [HP.out]; exact ⟨rfl, HE.out⟩)
                        | true =>
                          cases rb with
                          | false =>
                            have hno : ¬ (WholeF p0 ∧ WholeF p1) ∨ ¬ (WholeF r0 ∧ WholeF r1) := .inr (fun h => by have := HXY.out.2.2.2 h; cases this)
                            have HAd : Hid (∀ w, Calls Tryd.prog 13 #[X, Y] w (OpArg w)) := Lib.hid (fun w => by rw [HXY.out.1.1, HXY.out.1.2]; exact add_no w p0 p1 r0 r1 hno)
                            have HTm : Hid (∀ w, Calls Tryd.prog 14 #[X, Y] w (OpArg w)) := Lib.hid (fun w => by rw [HXY.out.1.1, HXY.out.1.2]; exact times_no w p0 p1 r0 r1 hno)
                            clear hno
                            obtain ⟨Z0, hZ0⟩ : ∃ Z, Z = zeroZ := ⟨_, rfl⟩
                            simp only [OpArg, ← hZ0] at HAd HTm
                            have hz : ∀ t w, (binOp .eql t Z0 (.complex .f64 0 0)).run Tryd.prog w = .ok (.bool true) w := fun t w => by
                              rw [hZ0]
                              have := zeroZ_rep.eql zeroZ_rep t w
                              rw [decide_eq_true ⟨rfl, rfl⟩] at this
                              exact this
                            have hgz : ∀ op t o1 o2 w, (eqGuard op t o1 o2 Z0 (.complex .f64 0 0)).run Tryd.prog w = .ok () w := fun op t o1 o2 w => by rw [hZ0]; cases op <;> rfl
                            clear hZ0
                            go_wp2_with (fail)
                            refine (HAd.out _).mono ?_
                            rintro e w7 ⟨rfl, hB⟩
                            have H14 := Lib.hid (H13.out.grow hB)
                            clear hB
                            dsimp only
                            go_wp2_with (fail)
                            refine (HTm.out _).mono ?_
                            rintro e w8 ⟨rfl, hB⟩
                            have H15 := Lib.hid (H14.out.grow hB)
                            clear hB
                            dsimp only
                            have dr0 : w8.cell? ⟨rk, 0, none⟩ = some (.bool true) := (H15.out.cell (b := rk) (cs := #[.bool true, .bool false]) (t := 30) (by simp) 0).trans rfl
                            have dr1 : w8.cell? ⟨rk, 1, none⟩ = some (.bool false) := (H15.out.cell (b := rk) (cs := #[.bool true, .bool false]) (t := 30) (by simp) 1).trans rfl
                            have HE : Hid (Below w.heap.size w w8) := H15.out.2.1
                            go_wp2_with (fail)
                            first
                            | (rw [HP.out]; exact ⟨rfl, HE.out⟩)
                            | (go_ret; rw [HP.out]; exact ⟨rfl, HE.out⟩)
                          | true =>
                            obtain ⟨u0, u1, zX0⟩ := WholeZ.of_whole (HXY.out.2.1.1 rfl).1 (HXY.out.2.1.1 rfl).2
                            obtain ⟨e0, e1, zY0⟩ := WholeZ.of_whole (HXY.out.2.2.1 rfl).1 (HXY.out.2.2.1 rfl).2
                            have zX : WholeZ X u0 u1 := by rw [HXY.out.1.1]; exact zX0
                            have zY : WholeZ Y e0 e1 := by rw [HXY.out.1.2]; exact zY0
                            have cvt : ∀ (p : Nat) (u : Int), FRep p u → -1073741824 ≤ u ∧ u ≤ 1073741824 → ∀ w, (convert 22 3 (.float .f64 p)).run Tryd.prog w = .ok (.int .i64 u) w := fun p u h hb w =>
                              run_conv_f64_int w (by rw [Tryd.underlying22]; rfl) Tryd.underlying3 h (by simp [IntKind.min, IntKind.signed, IntKind.bits]; omega) (by simp [IntKind.max, IntKind.signed, IntKind.bits]; omega)
                            have bX : -1073741824 ≤ u0 ∧ u0 ≤ 1073741824 ∧ -1073741824 ≤ u1 ∧ u1 ≤ 1073741824 := zX.2
                            have bY : -1073741824 ≤ e0 ∧ e0 ≤ 1073741824 ∧ -1073741824 ≤ e1 ∧ e1 ≤ 1073741824 := zY.2
                            have HCi : Hid (((∀ w, (convert 22 3 P0).run Tryd.prog w = .ok (.int .i64 u0) w) ∧ (∀ w, (convert 22 3 P1).run Tryd.prog w = .ok (.int .i64 u1) w)) ∧ (∀ w, (convert 22 3 R0).run Tryd.prog w = .ok (.int .i64 e0) w) ∧ (∀ w, (convert 22 3 R1).run Tryd.prog w = .ok (.int .i64 e1) w)) := by
                              rw [HV.out.1.1, HV.out.1.2, HV.out.2.1, HV.out.2.2]
                              obtain ⟨⟨a, b, hab, hx0, hx1⟩, _⟩ := zX0
                              obtain ⟨⟨c, d, hcd, hy0, hy1⟩, _⟩ := zY0
                              cases hab
                              cases hcd
                              exact Lib.hid ⟨⟨cvt _ _ hx0 (by omega), cvt _ _ hx1 (by omega)⟩, cvt _ _ hy0 (by omega), cvt _ _ hy1 (by omega)⟩
                            clear zX0 zY0 cvt
                            obtain ⟨a0, ha0⟩ : ∃ a, a = u0 + e0 := ⟨_, rfl⟩
                            obtain ⟨a1, ha1⟩ : ∃ a, a = u1 + e1 := ⟨_, rfl⟩
                            obtain ⟨m0, hm0⟩ : ∃ a, a = u0 * e0 - u1 * e1 := ⟨_, rfl⟩
                            obtain ⟨m1, hm1⟩ : ∃ a, a = u0 * e1 + u1 * e0 := ⟨_, rfl⟩
                            have HAd := Lib.hid (fun w => add_yes w X Y u0 u1 e0 e1 zX zY)
                            have HTm := Lib.hid (fun w => times_yes w X Y u0 u1 e0 e1 zX zY)
                            have HSa := Lib.hid (fun w => same_of a0 a1 w)
                            have HSm := Lib.hid (fun w => same_of m0 m1 w)
                            have HPa := Lib.hid (fun w => parts_yes w X u0 u1 zX)
                            have HNx := Lib.hid (fun w => norm_yes w X u0 u1 zX)
                            have HSx := Lib.hid (fun w => side_yes w X u0 u1 zX)
                            have HRs := Lib.hid (fun w => grSide_any w u0 u1 zX.2)
                            have HRt := Lib.hid (fun w => grTimes_any w u0 u1 e0 e1 zX.2 zY.2)
                            unfold OpEnd at HAd HTm
                            simp only [← ha0, ← ha1, ← hm0, ← hm1] at HAd HTm HRt
                            unfold pairV at HRt
                            obtain ⟨S, hS⟩ : ∃ S, S = ofV a0 a1 := ⟨_, rfl⟩
                            obtain ⟨Es, hEs⟩ : ∃ S, S = ofE a0 a1 := ⟨_, rfl⟩
                            obtain ⟨M, hM⟩ : ∃ S, S = ofV m0 m1 := ⟨_, rfl⟩
                            obtain ⟨Em, hEm⟩ : ∃ S, S = ofE m0 m1 := ⟨_, rfl⟩
                            obtain ⟨sd, hsd⟩ : ∃ S, S = sideP u0 u1 := ⟨_, rfl⟩
                            obtain ⟨s0, hs0⟩ : ∃ S, S = u0 * u0 := ⟨_, rfl⟩
                            obtain ⟨s1, hs1⟩ : ∃ S, S = u1 * u1 := ⟨_, rfl⟩
                            obtain ⟨nX, hnX⟩ : ∃ S, S = s0 + s1 := ⟨_, rfl⟩
                            simp only [← hS, ← hEs, ← hM, ← hEm, ← hsd, ← hs0, ← hs1, ← hnX] at HAd HTm HSa HSm HSx HRs HNx
                            have k1 := prod_bd (a := u0) (b := u0) (A := 1073741824) (B := 1073741824) (by omega) (by omega)
                            have k2 := prod_bd (a := u1) (b := u1) (A := 1073741824) (B := 1073741824) (by omega) (by omega)
                            rw [← hs0] at k1
                            rw [← hs1] at k2
                            have HAr : Hid (((u0 + e0 = a0 ∧ IntKind.i64.wrap a0 = a0) ∧ u1 + e1 = a1 ∧ IntKind.i64.wrap a1 = a1) ∧ ((u0 * u0 = s0 ∧ IntKind.i64.wrap s0 = s0) ∧ u1 * u1 = s1 ∧ IntKind.i64.wrap s1 = s1) ∧ s0 + s1 = nX ∧ IntKind.i64.wrap nX = nX) :=
                              Lib.hid ⟨⟨⟨ha0.symm, IntWalk.i64_in _ (by omega)⟩, ha1.symm, IntWalk.i64_in _ (by omega)⟩, ⟨⟨hs0.symm, IntWalk.i64_in _ (by omega)⟩, hs1.symm, IntWalk.i64_in _ (by omega)⟩, hnX.symm, IntWalk.i64_in _ (by omega)⟩
                            clear ha0 ha1 hm0 hm1 hS hEs hM hEm hsd hs0 hs1 hnX k1 k2 bX bY zX zY
                            go_wp2_with (fail)
                            refine (HAd.out _).mono ?_
                            rintro e w' ⟨rfl, hw'⟩
                            subst w'
                            dsimp only
                            go_wp2_with (fail)
                            refine (HTm.out _).mono ?_
                            rintro e w' ⟨rfl, hw'⟩
                            subst w'
                            dsimp only
                            have dr0 : w2.cell? ⟨rk, 0, none⟩ = some (.bool true) := (H13.out.cell (b := rk) (cs := #[.bool true, .bool true]) (t := 30) (by simp) 0).trans rfl
                            have dr1 : w2.cell? ⟨rk, 1, none⟩ = some (.bool true) := (H13.out.cell (b := rk) (cs := #[.bool true, .bool true]) (t := 30) (by simp) 1).trans rfl
                            go_upto_region 18 with (fail)
                            obtain ⟨B18, hB18⟩ : ∃ b, b = w2.heap.size := ⟨_, rfl⟩
                            have HG18 := Lib.hid H13.out.drew
                            rw [← hB18] at HG18
                            have HLt := Lib.hid H13.out.lt
                            rw [← hB18] at HLt
                            have HRm := Lib.hid (rooms18_ok u0 u1 e0 e1)
                            clear hB18 dr0 dr1 HAd HTm
                            refine wp_region_joint (by kernel_rfl) (vOpt [some (.pointer (some ⟨xb, 0, none⟩)), some (P0), some (.int .i64 u0), some (.pointer (some ⟨xb, 1, none⟩)), some (P1), some (.int .i64 u1), some (.agg #[.int .i64 u0, .int .i64 u1]), some (.pointer (some ⟨yb, 0, none⟩)), some (R0), some (.int .i64 e0), some (.pointer (some ⟨yb, 1, none⟩)), some (R1), some (.int .i64 e1), some (.agg #[.int .i64 e0, .int .i64 e1]), none, none, none, none]) (Held w B18 [(tb, #[.int .i64 t0, .int .i64 t1], 24), (rk, #[.bool true, .bool true], 30), (nb, #[.int .i64 n0, .int .i64 n1], 24), (yb, #[R0, R1], 23), (xb, #[P0, P1], 23), (cb, #[P0, P1, R0, R1, .int .i64 n0, .int .i64 n1, .int .i64 q], 26)]) (Rooms B18 (rooms18 u0 u1 e0 e1)) (fun _ _ _ _ h => h) (by kernel_rfl) HG18.out (Rooms.none _ _ _ _) ⟨trivial, trivial, trivial, trivial, trivial, trivial, trivial, trivial, trivial, trivial, trivial, trivial, trivial, trivial, trivial, trivial, trivial, trivial, trivial⟩ ?_ ?_
                            · refine ⟨?_, ?_, ?_, ?_, ?_, ?_, ?_, ?_, ?_, ?_, ?_, ?_, ?_, ?_, ?_, ?_, ?_, ?_, trivial⟩
                              · intro L a w' hG hJ hsz hl hb hout hpre K hK
                                clear hsz hl hb
                                have q3 := ev_of ((hout 3 rfl).trans (show _ = .pointer (some ⟨xb, 0, none⟩) from rfl))
                                clear hout hpre
                                go_step
                                exact hK _ _ rfl hG (hJ.pure 0 (some 167) _ rfl (Below.refl _ _))
                              · intro L a w' hG hJ hsz hl hb hout hpre K hK
                                clear hsz hl hb
                                obtain ⟨p0, _⟩ := hpre
                                have q167 := ev_of (show a.eval (.tmp 167) = .pointer (some ⟨xb, 0, none⟩) from p0)
                                have hc : w'.cell? ⟨xb, 0, none⟩ = some (P0) := (hG.cell (b := xb) (cs := #[P0, P1]) (t := 23) (by simp) 0).trans rfl
                                clear hout p0
                                go_step
                                exact hK _ _ rfl hG (hJ.pure 1 (some 168) _ rfl (Below.refl _ _))
                              · intro L a w' hG hJ hsz hl hb hout hpre K hK
                                clear hsz hl hb
                                obtain ⟨p0, _⟩ := hpre
                                have q168 := ev_of (show a.eval (.tmp 168) = P0 from p0)
                                have hv := HCi.out.1.1
                                clear hout p0
                                go_step
                                exact hK _ _ rfl hG (hJ.pure 2 (some 169) _ rfl (Below.refl _ _))
                              · intro L a w' hG hJ hsz hl hb hout hpre K hK
                                clear hsz hl hb
                                have q3 := ev_of ((hout 3 rfl).trans (show _ = .pointer (some ⟨xb, 0, none⟩) from rfl))
                                clear hout hpre
                                go_step
                                exact hK _ _ rfl hG (hJ.pure 3 (some 170) _ rfl (Below.refl _ _))
                              · intro L a w' hG hJ hsz hl hb hout hpre K hK
                                clear hsz hl hb
                                obtain ⟨p0, _⟩ := hpre
                                have q170 := ev_of (show a.eval (.tmp 170) = .pointer (some ⟨xb, 1, none⟩) from p0)
                                have hc : w'.cell? ⟨xb, 1, none⟩ = some (P1) := (hG.cell (b := xb) (cs := #[P0, P1]) (t := 23) (by simp) 1).trans rfl
                                clear hout p0
                                go_step
                                exact hK _ _ rfl hG (hJ.pure 4 (some 171) _ rfl (Below.refl _ _))
                              · intro L a w' hG hJ hsz hl hb hout hpre K hK
                                clear hsz hl hb
                                obtain ⟨p0, _⟩ := hpre
                                have q171 := ev_of (show a.eval (.tmp 171) = P1 from p0)
                                have hv := HCi.out.1.2
                                clear hout p0
                                go_step
                                exact hK _ _ rfl hG (hJ.pure 5 (some 172) _ rfl (Below.refl _ _))
                              · intro L a w' hG hJ hsz hl hb hout hpre K hK
                                clear hsz hl hb
                                obtain ⟨p0, p1, _⟩ := hpre
                                have q169 := ev_of (show a.eval (.tmp 169) = .int .i64 u0 from p0)
                                have q172 := ev_of (show a.eval (.tmp 172) = .int .i64 u1 from p1)
                                clear hout p0 p1
                                go_step
                                exact hK _ _ rfl hG (hJ.pure 6 (some 173) _ rfl (Below.refl _ _))
                              · intro L a w' hG hJ hsz hl hb hout hpre K hK
                                clear hsz hl hb
                                have q4 := ev_of ((hout 4 rfl).trans (show _ = .pointer (some ⟨yb, 0, none⟩) from rfl))
                                clear hout hpre
                                go_step
                                exact hK _ _ rfl hG (hJ.pure 7 (some 174) _ rfl (Below.refl _ _))
                              · intro L a w' hG hJ hsz hl hb hout hpre K hK
                                clear hsz hl hb
                                obtain ⟨p0, _⟩ := hpre
                                have q174 := ev_of (show a.eval (.tmp 174) = .pointer (some ⟨yb, 0, none⟩) from p0)
                                have hc : w'.cell? ⟨yb, 0, none⟩ = some (R0) := (hG.cell (b := yb) (cs := #[R0, R1]) (t := 23) (by simp) 0).trans rfl
                                clear hout p0
                                go_step
                                exact hK _ _ rfl hG (hJ.pure 8 (some 175) _ rfl (Below.refl _ _))
                              · intro L a w' hG hJ hsz hl hb hout hpre K hK
                                clear hsz hl hb
                                obtain ⟨p0, _⟩ := hpre
                                have q175 := ev_of (show a.eval (.tmp 175) = R0 from p0)
                                have hv := HCi.out.2.1
                                clear hout p0
                                go_step
                                exact hK _ _ rfl hG (hJ.pure 9 (some 176) _ rfl (Below.refl _ _))
                              · intro L a w' hG hJ hsz hl hb hout hpre K hK
                                clear hsz hl hb
                                have q4 := ev_of ((hout 4 rfl).trans (show _ = .pointer (some ⟨yb, 0, none⟩) from rfl))
                                clear hout hpre
                                go_step
                                exact hK _ _ rfl hG (hJ.pure 10 (some 177) _ rfl (Below.refl _ _))
                              · intro L a w' hG hJ hsz hl hb hout hpre K hK
                                clear hsz hl hb
                                obtain ⟨p0, _⟩ := hpre
                                have q177 := ev_of (show a.eval (.tmp 177) = .pointer (some ⟨yb, 1, none⟩) from p0)
                                have hc : w'.cell? ⟨yb, 1, none⟩ = some (R1) := (hG.cell (b := yb) (cs := #[R0, R1]) (t := 23) (by simp) 1).trans rfl
                                clear hout p0
                                go_step
                                exact hK _ _ rfl hG (hJ.pure 11 (some 178) _ rfl (Below.refl _ _))
                              · intro L a w' hG hJ hsz hl hb hout hpre K hK
                                clear hsz hl hb
                                obtain ⟨p0, _⟩ := hpre
                                have q178 := ev_of (show a.eval (.tmp 178) = R1 from p0)
                                have hv := HCi.out.2.2
                                clear hout p0
                                go_step
                                exact hK _ _ rfl hG (hJ.pure 12 (some 179) _ rfl (Below.refl _ _))
                              · intro L a w' hG hJ hsz hl hb hout hpre K hK
                                clear hsz hl hb
                                obtain ⟨p0, p1, _⟩ := hpre
                                have q176 := ev_of (show a.eval (.tmp 176) = .int .i64 e0 from p0)
                                have q179 := ev_of (show a.eval (.tmp 179) = .int .i64 e1 from p1)
                                clear hout p0 p1
                                go_step
                                exact hK _ _ rfl hG (hJ.pure 13 (some 180) _ rfl (Below.refl _ _))
                              · intro L a w' hG hJ hsz hl hb hout hpre K hK
                                have HSz := Lib.hid hsz
                                clear hout hpre hb hsz
                                go_step
                                exact hK _ _ trivial (hG.grow ((Below.refl _ w').alloc (Nat.le_refl _) _)) (hJ.alloc HRm.out.1 HRm.out.2 ⟨14, 16, 17, #[.int .i64 0, .int .i64 0], #[.int .i64 u0, .int .i64 u1], 24⟩ (by simp [rooms18]) hl (Nat.lt_of_lt_of_eq (show (17 : Nat) < 247 by decide) (HSz.out.trans (show _ = 247 from rfl)).symm) hG.2.2)
                              · intro L a w' hG hJ hsz hl hb hout hpre K hK
                                have HSz := Lib.hid hsz
                                clear hout hpre hb hsz
                                go_step
                                exact hK _ _ trivial (hG.grow ((Below.refl _ w').alloc (Nat.le_refl _) _)) (hJ.alloc HRm.out.1 HRm.out.2 ⟨15, 17, 18, #[.int .i64 0, .int .i64 0], #[.int .i64 e0, .int .i64 e1], 24⟩ (by simp [rooms18]) hl (Nat.lt_of_lt_of_eq (show (18 : Nat) < 247 by decide) (HSz.out.trans (show _ = 247 from rfl)).symm) hG.2.2)
                              · intro L a w' hG hJ hsz hl hb hout hpre K hK
                                clear hsz
                                obtain ⟨p0, p1, _⟩ := hpre
                                have hai : L 14 = true := hb ⟨14, .data⟩ (by simp) (by decide)
                                obtain ⟨g, h1, h2, h3, hR⟩ := hJ.store HRm.out.1 HRm.out.2 ⟨14, 16, 17, #[.int .i64 0, .int .i64 0], #[.int .i64 u0, .int .i64 u1], 24⟩ (by simp [rooms18]) hai hl
                                refine wp_store_row 24 (.tmp 17) (.tmp 173) rfl g #[.int .i64 u0, .int .i64 u1] h1 p1 24 #[.int .i64 0, .int .i64 0] h3 (by kernel_rfl) rfl (by simp [Value.oneCell']) ?_
                                exact hK _ _ trivial (hG.set (fun x hx => Nat.lt_of_lt_of_le (HLt.out.2 x hx) h2) (Nat.le_trans HLt.out.1 h2)) hR
                              · intro L a w' hG hJ hsz hl hb hout hpre K hK
                                clear hsz
                                obtain ⟨p0, p1, _⟩ := hpre
                                have hai : L 15 = true := hb ⟨15, .data⟩ (by simp) (by decide)
                                obtain ⟨g, h1, h2, h3, hR⟩ := hJ.store HRm.out.1 HRm.out.2 ⟨15, 17, 18, #[.int .i64 0, .int .i64 0], #[.int .i64 e0, .int .i64 e1], 24⟩ (by simp [rooms18]) hai hl
                                refine wp_store_row 24 (.tmp 18) (.tmp 180) rfl g #[.int .i64 e0, .int .i64 e1] h1 p1 24 #[.int .i64 0, .int .i64 0] h3 (by kernel_rfl) rfl (by simp [Value.oneCell']) ?_
                                exact hK _ _ trivial (hG.set (fun x hx => Nat.lt_of_lt_of_le (HLt.out.2 x hx) h2) (Nat.le_trans HLt.out.1 h2)) hR
                            · intro vs a w2 hG hlen hV hJ
                              match vs, hlen, hV with
                              | [v0, v1, v2, v3, v4, v5, v6, v7, v8, v9, v10, v11, v12, v13, v14, v15, v16, v17], _, hV =>
                                obtain ⟨L, hR, hL⟩ := hJ
                                obtain ⟨ub, e1, _, ubr⟩ := hR.1 ⟨14, 16, 17, #[.int .i64 0, .int .i64 0], #[.int .i64 u0, .int .i64 u1], 24⟩ (by simp [rooms18]) (hL 14 (by decide))
                                have ubr := ubr
                                simp only [hL 16 (by decide), if_true] at ubr
                                obtain rfl : v14 = .pointer (some ⟨ub, 0, none⟩) := (hV 14 17 v14 rfl rfl).2.trans e1
                                clear e1
                                obtain ⟨vb, e1, _, vbr⟩ := hR.1 ⟨15, 17, 18, #[.int .i64 0, .int .i64 0], #[.int .i64 e0, .int .i64 e1], 24⟩ (by simp [rooms18]) (hL 15 (by decide))
                                have vbr := vbr
                                simp only [hL 17 (by decide), if_true] at vbr
                                obtain rfl : v15 = .pointer (some ⟨vb, 0, none⟩) := (hV 15 18 v15 rfl rfl).2.trans e1
                                clear e1
                                clear hV hR hL
                                simp only [putsL, List.tail_cons, List.headD_cons]
                                simp only [Act.put, List.setIfInBounds_toArray, List.set_cons_succ, List.set_cons_zero]
                                have H18 := Lib.hid ((hG.more ubr).more vbr)
                                clear hG ubr vbr HLt HRm HG18 H13
                                have du0 : w2.cell? ⟨ub, 0, none⟩ = some (.int .i64 u0) := (H18.out.cell (b := ub) (cs := #[.int .i64 u0, .int .i64 u1]) (t := 24) (by simp) 0).trans rfl
                                have du1 : w2.cell? ⟨ub, 1, none⟩ = some (.int .i64 u1) := (H18.out.cell (b := ub) (cs := #[.int .i64 u0, .int .i64 u1]) (t := 24) (by simp) 1).trans rfl
                                have de0 : w2.cell? ⟨vb, 0, none⟩ = some (.int .i64 e0) := (H18.out.cell (b := vb) (cs := #[.int .i64 e0, .int .i64 e1]) (t := 24) (by simp) 0).trans rfl
                                have de1 : w2.cell? ⟨vb, 1, none⟩ = some (.int .i64 e1) := (H18.out.cell (b := vb) (cs := #[.int .i64 e0, .int .i64 e1]) (t := 24) (by simp) 1).trans rfl
                                go_wp2_with (fail)
                                refine (HRt.out _).mono ?_
                                rintro e w7 ⟨rfl, hB⟩
                                have H19 := Lib.hid (H18.out.grow hB)
                                clear hB H18 du0 du1 de0 de1
                                dsimp only
                                iterate 4 go_step
                                refine wpList_store_row rfl _ _ _ rfl w7.heap.size #[.int .i64 m0, .int .i64 m1] rfl rfl 24 #[.int .i64 0, .int .i64 0] (heap_alloc_new w7 _) (by kernel_rfl) rfl (by simp [Value.oneCell']) ?_
                                rw [World.setRow_alloc_new]
                                obtain ⟨w8, hw8⟩ : ∃ W, W = w7.alloc (.cells #[.int .i64 m0, .int .i64 m1] 24) := ⟨_, rfl⟩
                                obtain ⟨mb, hmb⟩ : ∃ b, b = w7.heap.size := ⟨_, rfl⟩
                                rw [← hw8, ← hmb]
                                have h20 : Held w B18 [(mb, #[.int .i64 m0, .int .i64 m1], 24), (vb, #[.int .i64 e0, .int .i64 e1], 24), (ub, #[.int .i64 u0, .int .i64 u1], 24), (tb, #[.int .i64 t0, .int .i64 t1], 24), (rk, #[.bool true, .bool true], 30), (nb, #[.int .i64 n0, .int .i64 n1], 24), (yb, #[R0, R1], 23), (xb, #[P0, P1], 23), (cb, #[P0, P1, R0, R1, .int .i64 n0, .int .i64 n1, .int .i64 q], 26)] w8 := by
                                  rw [hw8, hmb]
                                  exact (H19.out.grow ((Below.refl _ w7).alloc (Nat.le_refl _) _)).more (heap_alloc_new w7 _)
                                have HG21 := Lib.hid h20.draw
                                clear hw8 hmb h20 H19
                                rw [show ∀ (a : Act) (v : Value), a.put none v = a from fun _ _ => rfl]
                                go_wp2_with (fail)
                                refine (HPa.out _).mono ?_
                                rintro e w' ⟨rfl, hw'⟩
                                subst w'
                                dsimp only
                                go_upto_region 21 with (fail)
                                refine wp_region_seq_frame (by kernel_rfl) [none, none, none, none, none, none, none, none, none, none, none, none, none, none, none, none, none, none, none, none, none, none, none, none, none, none, none, none, none, none, none, none, none, none, none, none, none, none, none, none, none, none, none, none, none, none, none, none, none, none, none, none, none, none, none, none, none, none, none] [] (vOfC (S :: (Value.int .i64 Es) :: (Value.pointer (some ⟨ub, 0, none⟩)) :: (Value.int .i64 u0) :: (Value.pointer (some ⟨vb, 0, none⟩)) :: (Value.int .i64 e0) :: (Value.int .i64 a0) :: (Value.pointer (some ⟨ub, 1, none⟩)) :: (Value.int .i64 u1) :: (Value.pointer (some ⟨vb, 1, none⟩)) :: (Value.int .i64 e1) :: (Value.int .i64 a1) :: (Value.agg #[.int .i64 a0, .int .i64 a1]) :: (Value.bool true) :: (Value.bool true) :: M :: (Value.int .i64 Em) :: (Value.agg #[.int .i64 m0, .int .i64 m1]) :: (Value.bool true) :: (Value.bool true) :: (Value.bool true) :: (Value.int .i64 u0) :: (Value.pointer (some ⟨ub, 0, none⟩)) :: (Value.int .i64 u0) :: (Value.bool true) :: (Value.bool true) :: (Value.bool true) :: (Value.int .i64 u1) :: (Value.pointer (some ⟨ub, 1, none⟩)) :: (Value.int .i64 u1) :: (Value.bool true) :: (Value.bool true) :: (Value.bool true) :: X :: (Value.int .i64 nX) :: (Value.pointer (some ⟨ub, 0, none⟩)) :: (Value.int .i64 u0) :: (Value.pointer (some ⟨ub, 0, none⟩)) :: (Value.int .i64 u0) :: (Value.int .i64 s0) :: (Value.pointer (some ⟨ub, 1, none⟩)) :: (Value.int .i64 u1) :: (Value.pointer (some ⟨ub, 1, none⟩)) :: (Value.int .i64 u1) :: (Value.int .i64 s1) :: (Value.int .i64 nX) :: (Value.bool true) :: (Value.bool true) :: (Value.bool true) :: X :: (Value.int .i64 sd) :: (Value.pointer (some ⟨ub, 0, none⟩)) :: (Value.int .i64 u0) :: (Value.pointer (some ⟨ub, 1, none⟩)) :: (Value.int .i64 u1) :: (Value.int .i64 sd) :: (Value.bool true) :: (Value.bool true) :: (Value.bool true) :: ([] : List Value))) (fun _ w' => Held w B18 [(mb, #[.int .i64 m0, .int .i64 m1], 24), (vb, #[.int .i64 e0, .int .i64 e1], 24), (ub, #[.int .i64 u0, .int .i64 u1], 24), (tb, #[.int .i64 t0, .int .i64 t1], 24), (rk, #[.bool true, .bool true], 30), (nb, #[.int .i64 n0, .int .i64 n1], 24), (yb, #[R0, R1], 23), (xb, #[P0, P1], 23), (cb, #[P0, P1, R0, R1, .int .i64 n0, .int .i64 n1, .int .i64 q], 26)] w') (fun w w' => Below w.heap.size w w') (vOfC_st _) (by kernel_rfl) (by kernel_rfl) (by kernel_rfl) HG21.out ⟨trivial, trivial, trivial, trivial, trivial, trivial, trivial, trivial, trivial, trivial, trivial, trivial, trivial, trivial, trivial, fun _ _ h => h, fun _ _ h => h, fun _ _ h => h, fun _ _ h => h, trivial, trivial, fun _ _ h => h, fun _ _ h => h, fun _ _ h => h, fun _ _ h => h, trivial, trivial, fun _ _ h => h, fun _ _ h => h, fun _ _ h => h, fun _ _ h => h, trivial, trivial, fun _ _ h => h, fun _ _ h => h, fun _ _ h => h, fun _ _ h => h, fun _ _ h => h, fun _ _ h => h, fun _ _ h => h, fun _ _ h => h, fun _ _ h => h, fun _ _ h => h, fun _ _ h => h, fun _ _ h => h, fun _ _ h => h, fun _ _ h => h, trivial, trivial, fun _ _ h => h, fun _ _ h => h, fun _ _ h => h, fun _ _ h => h, fun _ _ h => h, fun _ _ h => h, fun _ _ h => h, fun _ _ h => h, trivial, trivial, trivial⟩ ?_ ?_
                                · refine ⟨?_, ?_, ?_, ?_, ?_, ?_, ?_, ?_, ?_, ?_, ?_, ?_, ?_, ?_, ?_, ?_, ?_, ?_, ?_, ?_, ?_, ?_, ?_, ?_, ?_, ?_, ?_, ?_, ?_, ?_, ?_, ?_, ?_, ?_, ?_, ?_, ?_, ?_, ?_, ?_, ?_, ?_, ?_, ?_, ?_, ?_, ?_, ?_, ?_, ?_, ?_, ?_, ?_, ?_, ?_, ?_, ?_, ?_, ?_, trivial⟩
                                  · intro k a w' hG hout hpre K hK
                                    have q13 := ev_of ((hout 13 rfl).trans (show _ = S from rfl))
                                    clear hout hpre
                                    go_step
                                    exact hK _ _ rfl hG (Below.refl _ _)
                                  · intro k a w' hG hout hpre K hK
                                    have q14 := ev_of ((hout 14 rfl).trans (show _ = .int .i64 Es from rfl))
                                    clear hout hpre
                                    go_step
                                    exact hK _ _ rfl hG (Below.refl _ _)
                                  · intro k a w' hG hout hpre K hK
                                    have q17 := ev_of ((hout 17 rfl).trans (show _ = .pointer (some ⟨ub, 0, none⟩) from rfl))
                                    clear hout hpre
                                    go_step
                                    exact hK _ _ rfl hG (Below.refl _ _)
                                  · intro k a w' hG hout hpre K hK
                                    obtain ⟨p0, _⟩ := hpre
                                    have q191 := ev_of (show a.eval (.tmp 191) = .pointer (some ⟨ub, 0, none⟩) from p0)
                                    have hc : w'.cell? ⟨ub, 0, none⟩ = some (.int .i64 u0) := (hG.cell (b := ub) (cs := #[.int .i64 u0, .int .i64 u1]) (t := 24) (by simp) 0).trans rfl
                                    clear hout p0
                                    go_step
                                    exact hK _ _ rfl hG (Below.refl _ _)
                                  · intro k a w' hG hout hpre K hK
                                    have q18 := ev_of ((hout 18 rfl).trans (show _ = .pointer (some ⟨vb, 0, none⟩) from rfl))
                                    clear hout hpre
                                    go_step
                                    exact hK _ _ rfl hG (Below.refl _ _)
                                  · intro k a w' hG hout hpre K hK
                                    obtain ⟨p0, _⟩ := hpre
                                    have q193 := ev_of (show a.eval (.tmp 193) = .pointer (some ⟨vb, 0, none⟩) from p0)
                                    have hc : w'.cell? ⟨vb, 0, none⟩ = some (.int .i64 e0) := (hG.cell (b := vb) (cs := #[.int .i64 e0, .int .i64 e1]) (t := 24) (by simp) 0).trans rfl
                                    clear hout p0
                                    go_step
                                    exact hK _ _ rfl hG (Below.refl _ _)
                                  · intro k a w' hG hout hpre K hK
                                    obtain ⟨p0, p1, _⟩ := hpre
                                    have q192 := ev_of (show a.eval (.tmp 192) = .int .i64 u0 from p0)
                                    have q194 := ev_of (show a.eval (.tmp 194) = .int .i64 e0 from p1)
                                    have hx1 := HAr.out.1.1.1
                                    have hx2 := HAr.out.1.1.2
                                    clear hout p0 p1
                                    go_step
                                    exact hK _ _ rfl hG (Below.refl _ _)
                                  · intro k a w' hG hout hpre K hK
                                    have q17 := ev_of ((hout 17 rfl).trans (show _ = .pointer (some ⟨ub, 0, none⟩) from rfl))
                                    clear hout hpre
                                    go_step
                                    exact hK _ _ rfl hG (Below.refl _ _)
                                  · intro k a w' hG hout hpre K hK
                                    obtain ⟨p0, _⟩ := hpre
                                    have q196 := ev_of (show a.eval (.tmp 196) = .pointer (some ⟨ub, 1, none⟩) from p0)
                                    have hc : w'.cell? ⟨ub, 1, none⟩ = some (.int .i64 u1) := (hG.cell (b := ub) (cs := #[.int .i64 u0, .int .i64 u1]) (t := 24) (by simp) 1).trans rfl
                                    clear hout p0
                                    go_step
                                    exact hK _ _ rfl hG (Below.refl _ _)
                                  · intro k a w' hG hout hpre K hK
                                    have q18 := ev_of ((hout 18 rfl).trans (show _ = .pointer (some ⟨vb, 0, none⟩) from rfl))
                                    clear hout hpre
                                    go_step
                                    exact hK _ _ rfl hG (Below.refl _ _)
                                  · intro k a w' hG hout hpre K hK
                                    obtain ⟨p0, _⟩ := hpre
                                    have q198 := ev_of (show a.eval (.tmp 198) = .pointer (some ⟨vb, 1, none⟩) from p0)
                                    have hc : w'.cell? ⟨vb, 1, none⟩ = some (.int .i64 e1) := (hG.cell (b := vb) (cs := #[.int .i64 e0, .int .i64 e1]) (t := 24) (by simp) 1).trans rfl
                                    clear hout p0
                                    go_step
                                    exact hK _ _ rfl hG (Below.refl _ _)
                                  · intro k a w' hG hout hpre K hK
                                    obtain ⟨p0, p1, _⟩ := hpre
                                    have q197 := ev_of (show a.eval (.tmp 197) = .int .i64 u1 from p0)
                                    have q199 := ev_of (show a.eval (.tmp 199) = .int .i64 e1 from p1)
                                    have hx1 := HAr.out.1.2.1
                                    have hx2 := HAr.out.1.2.2
                                    clear hout p0 p1
                                    go_step
                                    exact hK _ _ rfl hG (Below.refl _ _)
                                  · intro k a w' hG hout hpre K hK
                                    obtain ⟨p0, p1, _⟩ := hpre
                                    have q195 := ev_of (show a.eval (.tmp 195) = .int .i64 a0 from p0)
                                    have q200 := ev_of (show a.eval (.tmp 200) = .int .i64 a1 from p1)
                                    clear hout p0 p1
                                    go_step
                                    exact hK _ _ rfl hG (Below.refl _ _)
                                  · intro k a w' hG hout hpre K hK
                                    obtain ⟨p0, p1, p2, _⟩ := hpre
                                    have q189 := ev_of (show a.eval (.tmp 189) = S from p0)
                                    have q190 := ev_of (show a.eval (.tmp 190) = .int .i64 Es from p1)
                                    have q201 := ev_of (show a.eval (.tmp 201) = .agg #[.int .i64 a0, .int .i64 a1] from p2)
                                    have HS := Lib.hid (HSa.out w')
                                    clear hout p0 p1 p2
                                    go_step
                                    refine HS.out.mono ?_
                                    rintro e w3 ⟨rfl, hB⟩
                                    exact hK _ _ rfl (hG.grow hB) hB
                                  · intro k a w' hG hout hpre K hK
                                    obtain ⟨p0, _⟩ := hpre
                                    have q202 := ev_of (show a.eval (.tmp 202) = .bool true from p0)
                                    clear hout p0
                                    go_step
                                    exact hK _ _ rfl hG (Below.refl _ _)
                                  · intro k a w' hG hout hpre K hK
                                    have q15 := ev_of ((hout 15 rfl).trans (show _ = M from rfl))
                                    clear hout hpre
                                    go_step
                                    exact hK _ _ rfl hG (Below.refl _ _)
                                  · intro k a w' hG hout hpre K hK
                                    have q16 := ev_of ((hout 16 rfl).trans (show _ = .int .i64 Em from rfl))
                                    clear hout hpre
                                    go_step
                                    exact hK _ _ rfl hG (Below.refl _ _)
                                  · intro k a w' hG hout hpre K hK
                                    have q19 := ev_of ((hout 19 rfl).trans (show _ = .pointer (some ⟨mb, 0, none⟩) from rfl))
                                    have hc0 : w'.cell? ⟨mb, 0, none⟩ = some (.int .i64 m0) := (hG.cell (b := mb) (cs := #[.int .i64 m0, .int .i64 m1]) (t := 24) (by simp) 0).trans rfl
                                    have hc1 : w'.cell? ⟨mb, 1, none⟩ = some (.int .i64 m1) := (hG.cell (b := mb) (cs := #[.int .i64 m0, .int .i64 m1]) (t := 24) (by simp) 1).trans rfl
                                    clear hout hpre
                                    go_step
                                    exact hK _ _ rfl hG (Below.refl _ _)
                                  · intro k a w' hG hout hpre K hK
                                    obtain ⟨p0, p1, p2, _⟩ := hpre
                                    have q204 := ev_of (show a.eval (.tmp 204) = M from p0)
                                    have q205 := ev_of (show a.eval (.tmp 205) = .int .i64 Em from p1)
                                    have q206 := ev_of (show a.eval (.tmp 206) = .agg #[.int .i64 m0, .int .i64 m1] from p2)
                                    have HS := Lib.hid (HSm.out w')
                                    clear hout p0 p1 p2
                                    go_step
                                    refine HS.out.mono ?_
                                    rintro e w3 ⟨rfl, hB⟩
                                    exact hK _ _ rfl (hG.grow hB) hB
                                  · intro k a w' hG hout hpre K hK
                                    obtain ⟨p0, p1, _⟩ := hpre
                                    have q203 := ev_of (show a.eval (.tmp 203) = .bool true from p0)
                                    have q207 := ev_of (show a.eval (.tmp 207) = .bool true from p1)
                                    clear hout p0 p1
                                    go_step
                                    exact hK _ _ rfl hG (Below.refl _ _)
                                  · intro k a w' hG hout hpre K hK
                                    obtain ⟨p0, _⟩ := hpre
                                    have q208 := ev_of (show a.eval (.tmp 208) = .bool true from p0)
                                    clear hout p0
                                    go_step
                                    exact hK _ _ rfl hG (Below.refl _ _)
                                  · intro k a w' hG hout hpre K hK
                                    have q20 := ev_of ((hout 20 rfl).trans (show _ = .int .i64 u0 from rfl))
                                    clear hout hpre
                                    go_step
                                    exact hK _ _ rfl hG (Below.refl _ _)
                                  · intro k a w' hG hout hpre K hK
                                    have q17 := ev_of ((hout 17 rfl).trans (show _ = .pointer (some ⟨ub, 0, none⟩) from rfl))
                                    clear hout hpre
                                    go_step
                                    exact hK _ _ rfl hG (Below.refl _ _)
                                  · intro k a w' hG hout hpre K hK
                                    obtain ⟨p0, _⟩ := hpre
                                    have q211 := ev_of (show a.eval (.tmp 211) = .pointer (some ⟨ub, 0, none⟩) from p0)
                                    have hc : w'.cell? ⟨ub, 0, none⟩ = some (.int .i64 u0) := (hG.cell (b := ub) (cs := #[.int .i64 u0, .int .i64 u1]) (t := 24) (by simp) 0).trans rfl
                                    clear hout p0
                                    go_step
                                    exact hK _ _ rfl hG (Below.refl _ _)
                                  · intro k a w' hG hout hpre K hK
                                    obtain ⟨p0, p1, _⟩ := hpre
                                    have q210 := ev_of (show a.eval (.tmp 210) = .int .i64 u0 from p0)
                                    have q212 := ev_of (show a.eval (.tmp 212) = .int .i64 u0 from p1)
                                    clear hout p0 p1
                                    go_step
                                    exact hK _ _ rfl hG (Below.refl _ _)
                                  · intro k a w' hG hout hpre K hK
                                    obtain ⟨p0, p1, _⟩ := hpre
                                    have q209 := ev_of (show a.eval (.tmp 209) = .bool true from p0)
                                    have q213 := ev_of (show a.eval (.tmp 213) = .bool true from p1)
                                    clear hout p0 p1
                                    go_step
                                    exact hK _ _ rfl hG (Below.refl _ _)
                                  · intro k a w' hG hout hpre K hK
                                    obtain ⟨p0, _⟩ := hpre
                                    have q214 := ev_of (show a.eval (.tmp 214) = .bool true from p0)
                                    clear hout p0
                                    go_step
                                    exact hK _ _ rfl hG (Below.refl _ _)
                                  · intro k a w' hG hout hpre K hK
                                    have q21 := ev_of ((hout 21 rfl).trans (show _ = .int .i64 u1 from rfl))
                                    clear hout hpre
                                    go_step
                                    exact hK _ _ rfl hG (Below.refl _ _)
                                  · intro k a w' hG hout hpre K hK
                                    have q17 := ev_of ((hout 17 rfl).trans (show _ = .pointer (some ⟨ub, 0, none⟩) from rfl))
                                    clear hout hpre
                                    go_step
                                    exact hK _ _ rfl hG (Below.refl _ _)
                                  · intro k a w' hG hout hpre K hK
                                    obtain ⟨p0, _⟩ := hpre
                                    have q217 := ev_of (show a.eval (.tmp 217) = .pointer (some ⟨ub, 1, none⟩) from p0)
                                    have hc : w'.cell? ⟨ub, 1, none⟩ = some (.int .i64 u1) := (hG.cell (b := ub) (cs := #[.int .i64 u0, .int .i64 u1]) (t := 24) (by simp) 1).trans rfl
                                    clear hout p0
                                    go_step
                                    exact hK _ _ rfl hG (Below.refl _ _)
                                  · intro k a w' hG hout hpre K hK
                                    obtain ⟨p0, p1, _⟩ := hpre
                                    have q216 := ev_of (show a.eval (.tmp 216) = .int .i64 u1 from p0)
                                    have q218 := ev_of (show a.eval (.tmp 218) = .int .i64 u1 from p1)
                                    clear hout p0 p1
                                    go_step
                                    exact hK _ _ rfl hG (Below.refl _ _)
                                  · intro k a w' hG hout hpre K hK
                                    obtain ⟨p0, p1, _⟩ := hpre
                                    have q215 := ev_of (show a.eval (.tmp 215) = .bool true from p0)
                                    have q219 := ev_of (show a.eval (.tmp 219) = .bool true from p1)
                                    clear hout p0 p1
                                    go_step
                                    exact hK _ _ rfl hG (Below.refl _ _)
                                  · intro k a w' hG hout hpre K hK
                                    obtain ⟨p0, _⟩ := hpre
                                    have q220 := ev_of (show a.eval (.tmp 220) = .bool true from p0)
                                    clear hout p0
                                    go_step
                                    exact hK _ _ rfl hG (Below.refl _ _)
                                  · intro k a w' hG hout hpre K hK
                                    have q7 := ev_of ((hout 7 rfl).trans (show _ = X from rfl))
                                    clear hout hpre
                                    go_step
                                    exact hK _ _ rfl hG (Below.refl _ _)
                                  · intro k a w' hG hout hpre K hK
                                    obtain ⟨p0, _⟩ := hpre
                                    have q222 := ev_of (show a.eval (.tmp 222) = X from p0)
                                    have HS := Lib.hid (HNx.out w')
                                    clear hout p0
                                    go_step
                                    refine HS.out.mono ?_
                                    rintro e w3 ⟨rfl, hw3⟩
                                    subst w3
                                    exact hK _ _ rfl hG (Below.refl _ _)
                                  · intro k a w' hG hout hpre K hK
                                    have q17 := ev_of ((hout 17 rfl).trans (show _ = .pointer (some ⟨ub, 0, none⟩) from rfl))
                                    clear hout hpre
                                    go_step
                                    exact hK _ _ rfl hG (Below.refl _ _)
                                  · intro k a w' hG hout hpre K hK
                                    obtain ⟨p0, _⟩ := hpre
                                    have q224 := ev_of (show a.eval (.tmp 224) = .pointer (some ⟨ub, 0, none⟩) from p0)
                                    have hc : w'.cell? ⟨ub, 0, none⟩ = some (.int .i64 u0) := (hG.cell (b := ub) (cs := #[.int .i64 u0, .int .i64 u1]) (t := 24) (by simp) 0).trans rfl
                                    clear hout p0
                                    go_step
                                    exact hK _ _ rfl hG (Below.refl _ _)
                                  · intro k a w' hG hout hpre K hK
                                    have q17 := ev_of ((hout 17 rfl).trans (show _ = .pointer (some ⟨ub, 0, none⟩) from rfl))
                                    clear hout hpre
                                    go_step
                                    exact hK _ _ rfl hG (Below.refl _ _)
                                  · intro k a w' hG hout hpre K hK
                                    obtain ⟨p0, _⟩ := hpre
                                    have q226 := ev_of (show a.eval (.tmp 226) = .pointer (some ⟨ub, 0, none⟩) from p0)
                                    have hc : w'.cell? ⟨ub, 0, none⟩ = some (.int .i64 u0) := (hG.cell (b := ub) (cs := #[.int .i64 u0, .int .i64 u1]) (t := 24) (by simp) 0).trans rfl
                                    clear hout p0
                                    go_step
                                    exact hK _ _ rfl hG (Below.refl _ _)
                                  · intro k a w' hG hout hpre K hK
                                    obtain ⟨p0, p1, _⟩ := hpre
                                    have q225 := ev_of (show a.eval (.tmp 225) = .int .i64 u0 from p0)
                                    have q227 := ev_of (show a.eval (.tmp 227) = .int .i64 u0 from p1)
                                    have hx1 := HAr.out.2.1.1.1
                                    have hx2 := HAr.out.2.1.1.2
                                    clear hout p0 p1
                                    go_step
                                    exact hK _ _ rfl hG (Below.refl _ _)
                                  · intro k a w' hG hout hpre K hK
                                    have q17 := ev_of ((hout 17 rfl).trans (show _ = .pointer (some ⟨ub, 0, none⟩) from rfl))
                                    clear hout hpre
                                    go_step
                                    exact hK _ _ rfl hG (Below.refl _ _)
                                  · intro k a w' hG hout hpre K hK
                                    obtain ⟨p0, _⟩ := hpre
                                    have q229 := ev_of (show a.eval (.tmp 229) = .pointer (some ⟨ub, 1, none⟩) from p0)
                                    have hc : w'.cell? ⟨ub, 1, none⟩ = some (.int .i64 u1) := (hG.cell (b := ub) (cs := #[.int .i64 u0, .int .i64 u1]) (t := 24) (by simp) 1).trans rfl
                                    clear hout p0
                                    go_step
                                    exact hK _ _ rfl hG (Below.refl _ _)
                                  · intro k a w' hG hout hpre K hK
                                    have q17 := ev_of ((hout 17 rfl).trans (show _ = .pointer (some ⟨ub, 0, none⟩) from rfl))
                                    clear hout hpre
                                    go_step
                                    exact hK _ _ rfl hG (Below.refl _ _)
                                  · intro k a w' hG hout hpre K hK
                                    obtain ⟨p0, _⟩ := hpre
                                    have q231 := ev_of (show a.eval (.tmp 231) = .pointer (some ⟨ub, 1, none⟩) from p0)
                                    have hc : w'.cell? ⟨ub, 1, none⟩ = some (.int .i64 u1) := (hG.cell (b := ub) (cs := #[.int .i64 u0, .int .i64 u1]) (t := 24) (by simp) 1).trans rfl
                                    clear hout p0
                                    go_step
                                    exact hK _ _ rfl hG (Below.refl _ _)
                                  · intro k a w' hG hout hpre K hK
                                    obtain ⟨p0, p1, _⟩ := hpre
                                    have q230 := ev_of (show a.eval (.tmp 230) = .int .i64 u1 from p0)
                                    have q232 := ev_of (show a.eval (.tmp 232) = .int .i64 u1 from p1)
                                    have hx1 := HAr.out.2.1.2.1
                                    have hx2 := HAr.out.2.1.2.2
                                    clear hout p0 p1
                                    go_step
                                    exact hK _ _ rfl hG (Below.refl _ _)
                                  · intro k a w' hG hout hpre K hK
                                    obtain ⟨p0, p1, _⟩ := hpre
                                    have q228 := ev_of (show a.eval (.tmp 228) = .int .i64 s0 from p0)
                                    have q233 := ev_of (show a.eval (.tmp 233) = .int .i64 s1 from p1)
                                    have hx1 := HAr.out.2.2.1
                                    have hx2 := HAr.out.2.2.2
                                    clear hout p0 p1
                                    go_step
                                    exact hK _ _ rfl hG (Below.refl _ _)
                                  · intro k a w' hG hout hpre K hK
                                    obtain ⟨p0, p1, _⟩ := hpre
                                    have q223 := ev_of (show a.eval (.tmp 223) = .int .i64 nX from p0)
                                    have q234 := ev_of (show a.eval (.tmp 234) = .int .i64 nX from p1)
                                    clear hout p0 p1
                                    go_step
                                    exact hK _ _ rfl hG (Below.refl _ _)
                                  · intro k a w' hG hout hpre K hK
                                    obtain ⟨p0, p1, _⟩ := hpre
                                    have q221 := ev_of (show a.eval (.tmp 221) = .bool true from p0)
                                    have q235 := ev_of (show a.eval (.tmp 235) = .bool true from p1)
                                    clear hout p0 p1
                                    go_step
                                    exact hK _ _ rfl hG (Below.refl _ _)
                                  · intro k a w' hG hout hpre K hK
                                    obtain ⟨p0, _⟩ := hpre
                                    have q236 := ev_of (show a.eval (.tmp 236) = .bool true from p0)
                                    clear hout p0
                                    go_step
                                    exact hK _ _ rfl hG (Below.refl _ _)
                                  · intro k a w' hG hout hpre K hK
                                    have q7 := ev_of ((hout 7 rfl).trans (show _ = X from rfl))
                                    clear hout hpre
                                    go_step
                                    exact hK _ _ rfl hG (Below.refl _ _)
                                  · intro k a w' hG hout hpre K hK
                                    obtain ⟨p0, _⟩ := hpre
                                    have q238 := ev_of (show a.eval (.tmp 238) = X from p0)
                                    have HS := Lib.hid (HSx.out w')
                                    clear hout p0
                                    go_step
                                    refine HS.out.mono ?_
                                    rintro e w3 ⟨rfl, hB⟩
                                    exact hK _ _ rfl (hG.grow hB) hB
                                  · intro k a w' hG hout hpre K hK
                                    have q17 := ev_of ((hout 17 rfl).trans (show _ = .pointer (some ⟨ub, 0, none⟩) from rfl))
                                    clear hout hpre
                                    go_step
                                    exact hK _ _ rfl hG (Below.refl _ _)
                                  · intro k a w' hG hout hpre K hK
                                    obtain ⟨p0, _⟩ := hpre
                                    have q240 := ev_of (show a.eval (.tmp 240) = .pointer (some ⟨ub, 0, none⟩) from p0)
                                    have hc : w'.cell? ⟨ub, 0, none⟩ = some (.int .i64 u0) := (hG.cell (b := ub) (cs := #[.int .i64 u0, .int .i64 u1]) (t := 24) (by simp) 0).trans rfl
                                    clear hout p0
                                    go_step
                                    exact hK _ _ rfl hG (Below.refl _ _)
                                  · intro k a w' hG hout hpre K hK
                                    have q17 := ev_of ((hout 17 rfl).trans (show _ = .pointer (some ⟨ub, 0, none⟩) from rfl))
                                    clear hout hpre
                                    go_step
                                    exact hK _ _ rfl hG (Below.refl _ _)
                                  · intro k a w' hG hout hpre K hK
                                    obtain ⟨p0, _⟩ := hpre
                                    have q242 := ev_of (show a.eval (.tmp 242) = .pointer (some ⟨ub, 1, none⟩) from p0)
                                    have hc : w'.cell? ⟨ub, 1, none⟩ = some (.int .i64 u1) := (hG.cell (b := ub) (cs := #[.int .i64 u0, .int .i64 u1]) (t := 24) (by simp) 1).trans rfl
                                    clear hout p0
                                    go_step
                                    exact hK _ _ rfl hG (Below.refl _ _)
                                  · intro k a w' hG hout hpre K hK
                                    obtain ⟨p0, p1, _⟩ := hpre
                                    have q241 := ev_of (show a.eval (.tmp 241) = .int .i64 u0 from p0)
                                    have q243 := ev_of (show a.eval (.tmp 243) = .int .i64 u1 from p1)
                                    have HS := Lib.hid (HRs.out w')
                                    clear hout p0 p1
                                    go_step
                                    refine HS.out.mono ?_
                                    rintro e w3 ⟨rfl, hB⟩
                                    exact hK _ _ rfl (hG.grow hB) hB
                                  · intro k a w' hG hout hpre K hK
                                    obtain ⟨p0, p1, _⟩ := hpre
                                    have q239 := ev_of (show a.eval (.tmp 239) = .int .i64 sd from p0)
                                    have q244 := ev_of (show a.eval (.tmp 244) = .int .i64 sd from p1)
                                    clear hout p0 p1
                                    go_step
                                    exact hK _ _ rfl hG (Below.refl _ _)
                                  · intro k a w' hG hout hpre K hK
                                    obtain ⟨p0, p1, _⟩ := hpre
                                    have q237 := ev_of (show a.eval (.tmp 237) = .bool true from p0)
                                    have q245 := ev_of (show a.eval (.tmp 245) = .bool true from p1)
                                    clear hout p0 p1
                                    go_step
                                    exact hK _ _ rfl hG (Below.refl _ _)
                                  · intro k a w' hG hout hpre K hK
                                    obtain ⟨p0, _⟩ := hpre
                                    have q246 := ev_of (show a.eval (.tmp 246) = .bool true from p0)
                                    clear hout p0
                                    go_step
                                    exact hK _ _ rfl hG (Below.refl _ _)
                                · intro vs w2 hG hlen hV
                                  match vs, hlen, hV with
                                  | v0 :: v1 :: v2 :: v3 :: v4 :: v5 :: v6 :: v7 :: v8 :: v9 :: v10 :: v11 :: v12 :: v13 :: v14 :: v15 :: v16 :: v17 :: v18 :: v19 :: v20 :: v21 :: v22 :: v23 :: v24 :: v25 :: v26 :: v27 :: v28 :: v29 :: v30 :: v31 :: v32 :: v33 :: v34 :: v35 :: v36 :: v37 :: v38 :: v39 :: v40 :: v41 :: v42 :: v43 :: v44 :: v45 :: v46 :: v47 :: v48 :: v49 :: v50 :: v51 :: v52 :: v53 :: v54 :: v55 :: v56 :: v57 :: v58 :: [], _, hV =>
                                    obtain rfl : v58 = .bool true := hV 58 2 v58 rfl rfl
                                    clear hV
                                    simp only [putsL, List.tail_cons, List.headD_cons]
                                    simp only [Act.put, List.setIfInBounds_toArray, List.set_cons_succ, List.set_cons_zero]
                                    have HE : Hid (Below w.heap.size w w2) := hG.2.1
                                    clear hG HG21
                                    go_wp2_with (fail)
                                    first
                                    | (rw [HP.out]; exact ⟨rfl, HE.out⟩)
                                    | (go_ret; rw [HP.out]; exact ⟨rfl, HE.out⟩)
end Go.Proofs.YtoelfjhejfgkiaaDoor
