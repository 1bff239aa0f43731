/-
  The contract of the reference's Same: two lists of windows.
-/
import Derived.Test.YtbfioekbahcicaaWinsRow
namespace Go.Proofs.Ytbfioekbahcicaa
open Go Go.RowKit

theorem WinsAt.get {w : World} {a : Option Addr} {l : List WindowL} (h : WinsAt w a l) {t : Nat} (ht : t < l.length) : ∃ x b o, l[t]? = some x ∧ a = some ⟨b, o, none⟩ ∧ w.cell? ⟨b, o + t * 3, none⟩ = some (Sv x.key) ∧ w.cell? ⟨b, o + t * 3 + 1, none⟩ = some (.int .i64 x.lo) ∧
    w.cell? ⟨b, o + t * 3 + 2, none⟩ = some (.int .i64 x.hi) := by
  rcases h with h | ⟨b, o, h, h'⟩
  · rw [h] at ht
    simp at ht
  · exact ⟨l[t], b, o, List.getElem?_eq_getElem ht, h, h' t _ (List.getElem?_eq_getElem ht) 0 _ rfl, h' t _ (List.getElem?_eq_getElem ht) 1 _ rfl, h' t _ (List.getElem?_eq_getElem ht) 2 _ rfl⟩
def ESW (w : World) (a b : List WindowL) (_j i : Value) (wr : World) : Prop := ∃ t : Nat, t ≤ a.length ∧ i = .int .i64 (t : Int) ∧ a.take t = b.take t ∧ Below w.heap.size w wr
set_option maxRecDepth 100000 in
set_option maxHeartbeats 2000000 in
theorem rwSame_any (w : World) (aa ba : Option Addr) (ca cb : Nat) (a b : List WindowL) (hA : WinsAt w aa a) (hB : WinsAt w ba b) (hl : a.length ≤ 9223372036854775806) :
    Calls Try.prog 14 #[.slice aa a.length ca, .slice ba b.length cb] w (Below0 w (.bool (decide (a = b)))) := by
  by_cases hne : a.length = b.length
  · obtain ⟨L, hL⟩ : ∃ L, L = a.length := ⟨_, rfl⟩
    rw [← hne, ← hL]
    have HP := Lib.hid (And.intro hA (And.intro hB (And.intro hL (hL.trans hne))))
    obtain ⟨r0, hr0⟩ : ∃ r, r = decide (a = b) := ⟨_, rfl⟩
    rw [← hr0]
    have HR0 := Lib.hid hr0
    have hL6 : L ≤ 9223372036854775806 := by omega
    clear hA hB hL hne hl hr0
    have e0 : ((L : Int) != (L : Int)) = false := by simp
    go_enter Try.func14, Try.ntmps14
    go_wp2_with (fail)
    go_loopw [5, 13] (ESW w a b) (fun _ i _ => L - (intOf i).toNat)
    case atStart => exact ⟨0, Nat.zero_le _, rfl, rfl, Below.refl _ _⟩
    case round =>
      obtain ⟨ii, hk, rfl, heq, hBw⟩ := hrel
      rw [← HP.out.2.2.1] at hk
      have HBw := Lib.hid hBw
      clear hBw
      by_cases hlt : ii < L
      · have hi0 : (0 : Int) ≤ (ii : Int) ∧ (ii : Int) < (L : Int) := by omega
        have HI0 := Lib.hid hi0
        obtain ⟨x, pa, oa, hx, rfl, _⟩ := (HP.out.1.below HBw.out).get (t := ii) (by rw [← HP.out.2.2.1]; exact hlt)
        obtain ⟨y, pb, ob, hy, rfl, _⟩ := (HP.out.2.1.below HBw.out).get (t := ii) (by rw [← HP.out.2.2.2]; exact hlt)
        obtain ⟨VA, hVA⟩ : ∃ V, V = Value.agg x.cells := ⟨_, rfl⟩
        obtain ⟨VB, hVB⟩ : ∃ V, V = Value.agg y.cells := ⟨_, rfl⟩
        have HV := Lib.hid (And.intro hVA hVB)
        obtain ⟨r, hr⟩ : ∃ r, r = sameW x y := ⟨_, rfl⟩
        have HN : Hid ((∀ w, (binOp .neq 24 VA VB).run Try.prog w = .ok (.bool (!r)) w) ∧ ∀ w op o1 o2, (eqGuard op 24 o1 o2 VA VB).run Try.prog w = .ok () w) := by
          rw [hVA, hVB, hr]
          exact Lib.hid ⟨fun w => run_neq_window w x y, fun w op o1 o2 => run_guard_window w op o1 o2 x y⟩
        have HA : Hid (∀ w', Below wr.heap.size wr w' → w'.cell? ⟨pa, oa + ii * 3, none⟩ = some (Sv x.key) ∧ w'.cell? ⟨pa, oa + ii * 3 + 1, none⟩ = some (.int .i64 x.lo) ∧ w'.cell? ⟨pa, oa + ii * 3 + 2, none⟩ = some (.int .i64 x.hi)) := by
          refine Lib.hid (fun w' h => ?_)
          obtain ⟨x', b', o', hx', ha', d⟩ := (HP.out.1.below (HBw.out.trans (h.mono HBw.out.size))).get (t := ii) (by rw [← HP.out.2.2.1]; exact hlt)
          cases ha'
          rw [hx] at hx'
          cases hx'
          exact d
        have HB : Hid (∀ w', Below wr.heap.size wr w' → w'.cell? ⟨pb, ob + ii * 3, none⟩ = some (Sv y.key) ∧ w'.cell? ⟨pb, ob + ii * 3 + 1, none⟩ = some (.int .i64 y.lo) ∧ w'.cell? ⟨pb, ob + ii * 3 + 2, none⟩ = some (.int .i64 y.hi)) := by
          refine Lib.hid (fun w' h => ?_)
          obtain ⟨x', b', o', hx', ha', d⟩ := (HP.out.2.1.below (HBw.out.trans (h.mono HBw.out.size))).get (t := ii) (by rw [← HP.out.2.2.2]; exact hlt)
          cases ha'
          rw [hy] at hx'
          cases hx'
          exact d
        have HG0 : Hid (Below wr.heap.size wr wr.drew) := (Below.refl _ wr).drew
        have HS : Hid (r = true → (a.take (ii + 1) = b.take (ii + 1))) := Lib.hid (fun h => by
          rw [hr, sameW_iff] at h
          rw [take_next hx, take_next hy, heq, h])
        have HF : Hid (r = false → r0 = false) := Lib.hid (fun h => by
          rw [HR0.out]
          refine decide_eq_false fun e => ?_
          rw [e, hy] at hx
          simp only [Option.some.injEq] at hx
          rw [hr, hx] at h
          have : sameW x x = true := (sameW_iff x x).2 rfl
          rw [this] at h
          cases h)
        have HL := Lib.hid hlt
        clear heq hx hy hVA hVB hr hlt
        go_upto_region 6 with (fail)
        refine wp_region_seq_frame (by kernel_rfl) [none, none, none, none, none, none, none, none, none] [] (vOfC [.slice (some ⟨pa, oa, none⟩) L ca, .int .i64 (ii : Int), .pointer (some ⟨pa, oa + ii * 3, none⟩), VA, .slice (some ⟨pb, ob, none⟩) L cb, .int .i64 (ii : Int), .pointer (some ⟨pb, ob + ii * 3, none⟩), VB, .bool (!r)]) (fun _ w' => Below wr.heap.size wr w') (fun _ _ => True) (fun _ _ _ _ _ h => h) (by kernel_rfl) (by kernel_rfl) (by kernel_rfl) HG0.out ⟨trivial, trivial, trivial, trivial, trivial, trivial, trivial, trivial, trivial, trivial⟩ ?_ ?_
        · refine ⟨?_, ?_, ?_, ?_, ?_, ?_, ?_, ?_, ?_, trivial⟩
          · intro k a w' hG hout hpre K hK
            have q0 := ev_of ((hout 0 rfl).trans (show _ = .slice (some ⟨pa, oa, none⟩) L ca from rfl))
            clear hout hpre
            go_step
            exact hK _ _ rfl hG trivial
          · intro k a w' hG hout hpre K hK
            have q5 := ev_of ((hout 5 rfl).trans (show _ = .int .i64 (ii : Int) from rfl))
            clear hout hpre
            go_step
            exact hK _ _ rfl hG trivial
          · intro k a w' hG hout hpre K hK
            obtain ⟨p0, p1, _⟩ := hpre
            have q16 := ev_of (show a.eval (.tmp 16) = .slice (some ⟨pa, oa, none⟩) L ca from p0)
            have q17 := ev_of (show a.eval (.tmp 17) = .int .i64 (ii : Int) from p1)
            have hi0 := HI0.out
            clear hout p0 p1
            go_step
            exact hK _ _ rfl hG trivial
          · intro k a w' hG hout hpre K hK
            obtain ⟨p0, _⟩ := hpre
            have q18 := ev_of (show a.eval (.tmp 18) = .pointer (some ⟨pa, oa + ii * 3, none⟩) from p0)
            obtain ⟨d0, d1, d2⟩ := HA.out w' hG
            clear hout p0
            go_step
            exact hK _ _ HV.out.1.symm hG trivial
          · intro k a w' hG hout hpre K hK
            have q1 := ev_of ((hout 1 rfl).trans (show _ = .slice (some ⟨pb, ob, none⟩) L cb from rfl))
            clear hout hpre
            go_step
            exact hK _ _ rfl hG trivial
          · intro k a w' hG hout hpre K hK
            have q5 := ev_of ((hout 5 rfl).trans (show _ = .int .i64 (ii : Int) from rfl))
            clear hout hpre
            go_step
            exact hK _ _ rfl hG trivial
          · intro k a w' hG hout hpre K hK
            obtain ⟨p0, p1, _⟩ := hpre
            have q20 := ev_of (show a.eval (.tmp 20) = .slice (some ⟨pb, ob, none⟩) L cb from p0)
            have q21 := ev_of (show a.eval (.tmp 21) = .int .i64 (ii : Int) from p1)
            have hi0 := HI0.out
            clear hout p0 p1
            go_step
            exact hK _ _ rfl hG trivial
          · intro k a w' hG hout hpre K hK
            obtain ⟨p0, _⟩ := hpre
            have q22 := ev_of (show a.eval (.tmp 22) = .pointer (some ⟨pb, ob + ii * 3, none⟩) from p0)
            obtain ⟨d0, d1, d2⟩ := HB.out w' hG
            clear hout p0
            go_step
            exact hK _ _ HV.out.2.symm hG trivial
          · intro k a w' hG hout hpre K hK
            obtain ⟨p0, p1, _⟩ := hpre
            have q19 := ev_of (show a.eval (.tmp 19) = VA from p0)
            have q23 := ev_of (show a.eval (.tmp 23) = VB from p1)
            have hne := HN.out.1
            have hgd := HN.out.2
            clear hout p0 p1
            go_step
            exact hK _ _ rfl hG trivial
        · intro vs w2 hG hlen hV
          match vs, hlen, hV with
          | [v0, v1, v2, v3, v4, v5, v6, v7, v8], _, hV =>
            obtain rfl : v8 = .bool (!r) := hV 8 24 v8 rfl rfl
            clear hV
            simp only [putsL, List.tail_cons, List.headD_cons]
            simp only [Act.put, List.setIfInBounds_toArray, List.set_cons_succ, List.set_cons_zero]
            have HZ : Hid (Below w.heap.size w w2) := HBw.out.trans (hG.mono HBw.out.size)
            clear hG
            cases r with
            | true =>
              have HZ2 : Hid (ESW w a b (.int .i64 (ii : Int)) (.int .i64 ((ii : Int) + 1)) w2) := Lib.hid ⟨ii + 1, by rw [← HP.out.2.2.1]; have := HL.out; omega, by go_num, HS.out rfl, HZ.out⟩
              go_wp2_with (fail)
              have := HL.out
              exact ⟨HZ2.out, by simp [intOf]; omega⟩
            | false =>
              obtain rfl : r0 = false := HF.out rfl
              go_wp2_with (fail)
              go_ret
              exact ⟨rfl, HZ.out⟩
      · obtain rfl : ii = L := by omega
        obtain rfl : r0 = true := by
          rw [HR0.out]
          refine decide_eq_true ?_
          have h1 := heq
          rw [HP.out.2.2.1, List.take_length, ← HP.out.2.2.1, HP.out.2.2.2, List.take_length] at h1
          exact h1
        clear heq hlt
        go_wp2_with (fail)
        go_ret
        exact ⟨rfl, HBw.out⟩
  · have hd : decide (a = b) = false := decide_eq_false fun e => hne (by rw [e])
    rw [hd]
    obtain ⟨n, hn⟩ : ∃ n, n = a.length := ⟨_, rfl⟩
    obtain ⟨m, hm⟩ : ∃ m, m = b.length := ⟨_, rfl⟩
    rw [← hn, ← hm]
    have e0 : ((n : Int) != (m : Int)) = true := by simp; omega
    clear hA hB hl hne hd hn hm
    go_enter Try.func14, Try.ntmps14
    go_wp2_with (fail)
    go_ret
    exact ⟨rfl, Below.refl _ _⟩
end Go.Proofs.Ytbfioekbahcicaa
