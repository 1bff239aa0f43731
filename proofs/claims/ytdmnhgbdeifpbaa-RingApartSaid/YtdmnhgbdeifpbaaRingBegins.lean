/-
  The contract of ring's begins, where a run begins just there.
-/
import Derived.Test.YtdmnhgbdeifpbaaRingSmall
import Derived.Test.YtdmnhgbdeifpbaaStoreFirst
namespace Go.Proofs.Ytdmnhgbdeifpbaa
open Go Go.RowKit

theorem rg_load_at {P : Program} {o : Oper} {a : Act} {ops : Array Oper} {S : World → Prop} (hw : Region.wanted o (yielded ops a.tmps) = true) (ty : TypeId) (x : Operand) (ho : o.op = .load ty x) (A : Addr) (hx : a.eval x = .pointer (some A)) {V : Value}
    (hl : ∀ w, S w → (loadVar ty A).run P w = .ok V w) : YieldsIf P ops S o V a := by
  refine .inl ⟨hw, fun w hS => ?_⟩
  unfold execOp
  simp only [ho, hx, Instr.loadAt, Instr.sureAddr, Sem.run_bind, Sem.run_pure, Result.andThen_ok, hl w hS]
theorem RgAt.load {w : World} {b : Nat} {f l : Int} (h : RgAt w b f l) : (loadVar 23 ⟨b, 0, none⟩).run Try.prog w = .ok (rgC f l) w :=
  run_loadVar_row w b 23 23 _ (0, 0) _ h Try.underlying23 rfl (by kernel_rfl)
set_option maxRecDepth 100000 in
theorem rgbegins_any {w : World} {base : Nat} {sf : StF} {s : StS} (h : StAt w base sf s) {f l v n : Int} (hb : rgBegins f l s.L.length v n) :
    Calls Try.prog 21 #[.pointer (some ⟨sf.b, 0, none⟩), rgC f l, .int .i64 v, .int .i64 n] w (Below0 w (.bool true)) := by
  obtain ⟨P, hP⟩ : ∃ P : Ending → World → Prop, P = Below0 w (.bool true) := ⟨_, rfl⟩
  rw [← hP]
  have HP := Lib.hid hP
  obtain ⟨N, hN⟩ : ∃ N : Int, N = (s.L.length : Int) := ⟨_, rfl⟩
  rw [← hN] at hb
  have HN := Lib.hid hN
  have HS := Lib.hid h
  obtain ⟨hb1, hb2, hb3⟩ := hb
  obtain ⟨R, hR⟩ : ∃ R, R = rgC f l := ⟨_, rfl⟩
  rw [← hR]
  obtain ⟨wb, hwb⟩ : ∃ W, W = w.alloc (.cells #[.int .i64 f, .int .i64 l] 23) := ⟨_, rfl⟩
  obtain ⟨b, hbb⟩ : ∃ b, b = w.heap.size := ⟨_, rfl⟩
  have hn := rg_new w f l
  rw [← hwb, ← hbb] at hn
  have HB : Hid (RgAt wb b f l ∧ Below w.heap.size w wb) := by rw [← hbb]; exact hn
  have HLd : Hid (∀ w', Below wb.heap.size wb w' → (loadVar 23 ⟨b, 0, none⟩).run Try.prog w' = .ok R w') := by
    rw [hR]
    exact Lib.hid fun w' h => (HB.out.1.below h).load
  have HLe : Hid (∀ w', Below wb.heap.size wb w' → Calls Try.prog 33 #[.pointer (some ⟨sf.b, 0, none⟩)] w' fun e w'' => e = .returned (.int .i64 N) ∧ w'' = w') := by
    rw [hN]
    exact Lib.hid fun w' h' => slen_any (HS.out.far (HB.out.2.trans (h'.mono HB.out.2.size)))
  have HRi : Hid (∀ w', Below wb.heap.size wb w' → Calls Try.prog 15 #[R, .int .i64 N] w' (Below0 w' (.bool true))) := by
    rw [hR]
    refine Lib.hid fun w' _ => ?_
    have := rgright_any w' f l N
    rw [decide_eq_true hb1] at this
    exact this
  have HPl : Hid (∀ w', Below wb.heap.size wb w' → Calls Try.prog 29 #[.int .i64 v] w' fun e w'' => e = .returned (.bool true) ∧ w'' = w') := by
    refine Lib.hid fun w' _ => ?_
    have := rgplace_any w' v
    rw [decide_eq_true hb2] at this
    exact this
  have HSt : Hid (∀ w', Below wb.heap.size wb w' → Calls Try.prog 17 #[R, .int .i64 v, .int .i64 n] w' (Below0 w' (.int .i64 v))) := by
    rw [hR]
    refine Lib.hid fun w' _ => ?_
    have := rgstart_any w' f l v n
    rw [hb3] at this
    exact this
  have hRv : R = .agg #[.int .i64 f, .int .i64 l] := hR
  clear hP hN h hb1 hb2 hb3 hn hR
  rw [hRv] at HLd HRi HSt ⊢
  clear hRv R
  go_enter Try.func21, Try.ntmps21
  go_upto_region 1 with (fail)
  rw [← hwb, ← hbb]
  clear hwb hbb
  have hdr : Below wb.heap.size wb wb.drew := (Below.refl _ wb).drew
  refine wp_region_held_drew (S := fun w' => Below wb.heap.size wb w') (by kernel_rfl) hdr (fun hHeld => ?_)
  clear hdr
  refine tkFree (i := 0) (v := (.agg #[.int .i64 f, .int .i64 l])) rfl (by kernel_rfl) (by kernel_rfl) (by kernel_rfl) (fun _ _ _ h => h) (rg_load_at (by rfl) 23 _ rfl ⟨b, 0, none⟩ rfl (fun w hS => HLd.out w hS)) hHeld ?_
  simp only [Act.put, List.setIfInBounds_toArray, List.set_cons_zero, List.set_cons_succ]
  refine tkFree (i := 1) rfl (by kernel_rfl) (by kernel_rfl) (by kernel_rfl) (fun _ _ _ h => h) (.inl ⟨by rfl, fun w hSw => by go_simp; rfl⟩) hHeld ?_
  simp only [Act.put, List.setIfInBounds_toArray, List.set_cons_zero, List.set_cons_succ]
  refine tkOne 2 rfl (by kernel_rfl) rfl (fun K hK => ?_)
  go_simp
  refine (HLe.out _ hHeld).mono ?_
  rintro e w3_ ⟨rfl, rfl⟩
  refine hK _ _ hHeld ?_
  clear hK
  try simp only [Act.put, List.setIfInBounds_toArray, List.set_cons_zero, List.set_cons_succ]
  refine tkOne 3 rfl (by kernel_rfl) rfl (fun K hK => ?_)
  go_simp
  refine (HRi.out _ hHeld).mono ?_
  rintro e w3_ ⟨rfl, hB⟩
  have hH := hHeld.trans (hB.mono hHeld.size)
  refine hK _ _ hH ?_
  clear hK hB hHeld
  have hHeld := hH
  clear hH
  try simp only [Act.put, List.setIfInBounds_toArray, List.set_cons_zero, List.set_cons_succ]
  refine tkFree (i := 4) rfl (by kernel_rfl) (by kernel_rfl) (by kernel_rfl) (fun _ _ _ h => h) (.inl ⟨by rfl, fun w hSw => by go_simp; rfl⟩) hHeld ?_
  simp only [Act.put, List.setIfInBounds_toArray, List.set_cons_zero, List.set_cons_succ]
  refine tkFree (i := 5) rfl (by kernel_rfl) (by kernel_rfl) (by kernel_rfl) (fun _ _ _ h => h) (.inl ⟨by rfl, fun w hSw => by go_simp; rfl⟩) hHeld ?_
  simp only [Act.put, List.setIfInBounds_toArray, List.set_cons_zero, List.set_cons_succ]
  refine tkWant 6 rfl (by kernel_rfl) rfl (fun K hK => ?_)
  go_simp
  refine (HPl.out _ hHeld).mono ?_
  rintro e w3_ ⟨rfl, rfl⟩
  refine hK _ _ hHeld ?_
  clear hK
  try simp only [Act.put, List.setIfInBounds_toArray, List.set_cons_zero, List.set_cons_succ]
  refine tkFree (i := 7) rfl (by kernel_rfl) (by kernel_rfl) (by kernel_rfl) (fun _ _ _ h => h) (.inl ⟨by rfl, fun w hSw => by go_simp; rfl⟩) hHeld ?_
  simp only [Act.put, List.setIfInBounds_toArray, List.set_cons_zero, List.set_cons_succ]
  refine tkFree (i := 8) rfl (by kernel_rfl) (by kernel_rfl) (by kernel_rfl) (fun _ _ _ h => h) (.inl ⟨by rfl, fun w hSw => by go_simp; rfl⟩) hHeld ?_
  simp only [Act.put, List.setIfInBounds_toArray, List.set_cons_zero, List.set_cons_succ]
  refine tkFree (i := 9) (v := (.agg #[.int .i64 f, .int .i64 l])) rfl (by kernel_rfl) (by kernel_rfl) (by kernel_rfl) (fun _ _ _ h => h) (rg_load_at (by rfl) 23 _ rfl ⟨b, 0, none⟩ rfl (fun w hS => HLd.out w hS)) hHeld ?_
  simp only [Act.put, List.setIfInBounds_toArray, List.set_cons_zero, List.set_cons_succ]
  refine tkFree (i := 10) rfl (by kernel_rfl) (by kernel_rfl) (by kernel_rfl) (fun _ _ _ h => h) (.inl ⟨by rfl, fun w hSw => by go_simp; rfl⟩) hHeld ?_
  simp only [Act.put, List.setIfInBounds_toArray, List.set_cons_zero, List.set_cons_succ]
  refine tkFree (i := 11) rfl (by kernel_rfl) (by kernel_rfl) (by kernel_rfl) (fun _ _ _ h => h) (.inl ⟨by rfl, fun w hSw => by go_simp; rfl⟩) hHeld ?_
  simp only [Act.put, List.setIfInBounds_toArray, List.set_cons_zero, List.set_cons_succ]
  refine tkFree (i := 13) rfl (by kernel_rfl) (by kernel_rfl) (by kernel_rfl) (fun _ _ _ h => h) (.inl ⟨by rfl, fun w hSw => by go_simp; rfl⟩) hHeld ?_
  simp only [Act.put, List.setIfInBounds_toArray, List.set_cons_zero, List.set_cons_succ]
  refine tkWant 12 rfl (by kernel_rfl) rfl (fun K hK => ?_)
  go_simp
  refine (HSt.out _ hHeld).mono ?_
  rintro e w3_ ⟨rfl, hB⟩
  have hH := hHeld.trans (hB.mono hHeld.size)
  refine hK _ _ hH ?_
  clear hK hB hHeld
  have hHeld := hH
  clear hH
  try simp only [Act.put, List.setIfInBounds_toArray, List.set_cons_zero, List.set_cons_succ]
  refine tkFree (i := 14) rfl (by kernel_rfl) (by kernel_rfl) (by kernel_rfl) (fun _ _ _ h => h) (.inl ⟨by rfl, fun w hSw => by go_simp; rfl⟩) hHeld ?_
  simp only [Act.put, List.setIfInBounds_toArray, List.set_cons_zero, List.set_cons_succ]
  refine tkFree (i := 15) rfl (by kernel_rfl) (by kernel_rfl) (by kernel_rfl) (fun _ _ _ h => h) (.inl ⟨by rfl, fun w hSw => by go_simp; rfl⟩) hHeld ?_
  simp only [Act.put, List.setIfInBounds_toArray, List.set_cons_zero, List.set_cons_succ]
  refine tkFree (i := 16) rfl (by kernel_rfl) (by kernel_rfl) (by kernel_rfl) (fun _ _ _ h => h) (.inl ⟨by rfl, fun w hSw => by go_simp; rfl⟩) hHeld ?_
  simp only [Act.put, List.setIfInBounds_toArray, List.set_cons_zero, List.set_cons_succ]
  refine wpAnyH_done (by kernel_rfl) ?_ _
  have HZ : Hid (P (.returned (.bool true)) w3_) := by
    rw [HP.out]
    exact Lib.hid ⟨rfl, HB.out.2.trans (hHeld.mono HB.out.2.size)⟩
  clear hHeld
  go_wp2_with (fail)
  exact HZ.out
end Go.Proofs.Ytdmnhgbdeifpbaa
