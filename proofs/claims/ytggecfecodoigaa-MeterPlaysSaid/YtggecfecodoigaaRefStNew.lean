/-
  The contract of the document's store's New.
-/
import Derived.Test.YtggecfecodoigaaRefStLoad
import Derived.Deep.RegionLaw
namespace Go.Proofs.Ytggecfecodoigaa
open Go Go.RowKit

theorem step_push_str {ops : Array Oper} {o : Oper} {a : Act} {w : World} {K : Act → World → Prop} {Q : Exit → Act → World → Prop} {E : Prop} (hgd : o.guard = none) (x y : Operand)
    (ho : o.op = .call { callee := .builtin .append, args := #[x, y], argTypes := #[44, 44] }) {base : Nat} {v : Value} {xs : List Value} (hx : a.eval x = v) (hown : Own w base 9 v xs) {u : Value} {g : Nat}
    (hy : a.eval y = .slice (some ⟨g, 0, none⟩) 1 1) (hu : w.cell? ⟨g, 0, none⟩ = some u) (h1 : u.oneCell' = true) (hlen : xs.length + 1 ≤ 1000) (hbase : base ≤ w.heap.size)
    (h : ∀ v' w', Own w' base 9 v' (xs ++ [u]) → w.grownBy w' v.ownBlock → (v'.ownBlock = v.ownBlock ∨ v'.ownBlock = some w.heap.size) → K (a.put o.dst v') w') : if Region.wanted o (yielded ops a.tmps) = true then Oper.wp Try.prog o a w K Q else E := by
  rw [if_pos (by simp [Region.wanted, hgd])]
  obtain ⟨i, hi, hz0, hz1, hz2⟩ := info_parts infoStr
  obtain ⟨v', w', hr, h2, h3, _, h5⟩ := run_append_own_at (P := Try.prog) w base 44 o.type 9 i _ 1 16 Try.underlying44 hi hz0 hz1 hz2 rfl (by decide) v xs.length xs hown ⟨g, 0, none⟩ 1 1 [u] rfl (fun j z hj => by
    match j, hj with
    | 0, hj =>
      simp only [List.getElem?_cons_zero, Option.some.injEq] at hj
      subst hj
      rw [addr_add]
      exact hu
    | j + 1, hj => simp at hj) (fun z hz => by rw [List.mem_singleton.1 hz]; exact h1) (by unfold maxLen; omega) (by omega) hbase
  unfold Oper.wp execOp
  simp only [ho, resolve, invoke, builtin, Sem.run_bind, Sem.run_pure, Result.andThen_ok, List.map_toArray, List.map_cons, List.map_nil, hx, hy, hr]
  exact h v' w' (by unfold Own; rw [List.length_append]; exact h2) h3 h5
theorem own_form {w : World} {base : Nat} {e : TypeId} {m n : Nat} {v : Value} {xs : List Value} (h : w.ownsRow base e m v n xs) : ∃ a n c, v = .slice a n c := by
  rcases h.2 with ⟨hv, _⟩ | ⟨_, _, _, hv, _⟩
  · exact ⟨_, _, _, hv⟩
  · exact ⟨_, _, _, hv⟩
theorem rnew_frame {wr w6 : World} {o : Obj} {b base : Nat} {c : Array Value} {v : Value} {xs : List Value} (hob : wr.heap[b]? = some (.cells c 51 (0, 0))) (hl : Own wr base 9 v xs)
    (hg : (wr.alloc o).drew.grownBy w6 v.ownBlock) : w6.heap[b]? = some (.cells c 51 (0, 0)) := by
  have hb := (Array.getElem?_eq_some_iff.1 hob).1
  rw [hg.block b (by show b < (wr.alloc o).heap.size; simp; omega) fun e => own_ty hl hob (by decide) e.symm]
  show (wr.alloc o).heap[b]? = _
  rw [heap_alloc_old _ _ hb]
  exact hob
theorem rnew_last {w wr w6 : World} {o : Obj} {b i : Nat} {lv cv v' : Value} {zs : ByteArray}
    (hl : Own wr w.heap.size 9 lv (List.replicate i (.string zs))) (hc : Own wr w.heap.size 3 cv (List.replicate i (.int .i64 0))) (hB : Below w.heap.size w wr) (hlow : w.heap.size ≤ b)
    (hg : (wr.alloc o).drew.grownBy w6 lv.ownBlock) (_hv : v'.ownBlock = lv.ownBlock ∨ v'.ownBlock = some (wr.alloc o).drew.heap.size) (ho : Own w6 w.heap.size 9 v' (List.replicate i (.string zs) ++ [.string zs]))
    (h6 : w6.heap[b]? = some (.cells #[lv, .slice none 0 0, .int .i64 (-1), cv] 51 (0, 0))) :
    (w6.setCell ⟨b, 0, none⟩ v').heap[b]? = some (.cells #[v', .slice none 0 0, .int .i64 (-1), cv] 51 (0, 0)) ∧ Own (w6.setCell ⟨b, 0, none⟩ v') w.heap.size 9 v' (List.replicate (i + 1) (.string zs)) ∧
      Own (w6.setCell ⟨b, 0, none⟩ v') w.heap.size 3 cv (List.replicate i (.int .i64 0)) ∧ Below w.heap.size w (w6.setCell ⟨b, 0, none⟩ v') := by
  have hBd : Below wr.heap.size wr (wr.alloc o).drew := ((Below.refl _ wr).alloc (Nat.le_refl _) o).trans ⟨rfl, rfl, rfl, Nat.le_refl _, fun _ _ => rfl⟩
  have hc6 : Own w6 w.heap.size 3 cv (List.replicate i (.int .i64 0)) := own_move (hc.far hBd) fun g hg' => hg.block g (hc.far hBd |>.lt hg').2 fun e => own_two (hc.far hBd) (hl.far hBd) (by decide) hg' e.symm
  refine ⟨(obj_step h6 0 v').1, ?_, own_obj hc6 h6 (by decide) _ _, ?_⟩
  · rw [List.replicate_succ']
    exact own_obj ho h6 (by decide) _ _
  · have hB6 : Below w.heap.size w w6 := (hB.trans (hBd.mono hB.size)).trans ⟨hg.os, hg.tape, hg.output, hg.size, fun k hk => hg.block k (Nat.lt_of_lt_of_le hk (Nat.le_trans hB.size hBd.size)) fun e => by have := (hl.lt e.symm).1; omega⟩
    exact hB6.trans ⟨rfl, rfl, rfl, by simp [World.setCell], fun k hk => (obj_step h6 0 v').2 k (by omega)⟩
/-- A store while it is made. -/
structure RNew (w : World) (b i : Nat) (wr : World) : Prop where
  obj : ∃ lv cv, wr.heap[b]? = some (.cells #[lv, .slice none 0 0, .int .i64 (-1), cv] 51 (0, 0)) ∧ Own wr w.heap.size 9 lv (List.replicate i (Sv zeroB)) ∧ Own wr w.heap.size 3 cv (List.replicate i (.int .i64 0))
  below : Below w.heap.size w wr
  low : w.heap.size ≤ b
theorem rnew_obj {w7 w8 : World} {o : Obj} {b base : Nat} {c : Array Value} {v : Value} {xs : List Value} (hob : w7.heap[b]? = some (.cells c 51 (0, 0))) (hl : Own w7 base 3 v xs)
    (hg : (w7.alloc o).grownBy w8 v.ownBlock) : w8.heap[b]? = some (.cells c 51 (0, 0)) := by
  have hb := (Array.getElem?_eq_some_iff.1 hob).1
  rw [hg.block b (by simp; omega) fun e => own_ty hl hob (by decide) e.symm, heap_alloc_old _ _ hb]
  exact hob
theorem rnew_count {w w7 w8 : World} {o : Obj} {b i : Nat} {lv cv v' : Value} {z : Value} (hob : w7.heap[b]? = some (.cells #[lv, .slice none 0 0, .int .i64 (-1), cv] 51 (0, 0)))
    (hl : Own w7 w.heap.size 9 lv (List.replicate (i + 1) z)) (hc : Own w7 w.heap.size 3 cv (List.replicate i (.int .i64 0))) (hB : Below w.heap.size w w7) (hlow : w.heap.size ≤ b)
    (hg : (w7.alloc o).grownBy w8 cv.ownBlock) (ho : Own w8 w.heap.size 3 v' (List.replicate i (.int .i64 0) ++ [.int .i64 0])) :
    (∃ lv' cv', (w8.setCell ⟨b, 3, none⟩ v').heap[b]? = some (.cells #[lv', .slice none 0 0, .int .i64 (-1), cv'] 51 (0, 0)) ∧ Own (w8.setCell ⟨b, 3, none⟩ v') w.heap.size 9 lv' (List.replicate (i + 1) z) ∧
      Own (w8.setCell ⟨b, 3, none⟩ v') w.heap.size 3 cv' (List.replicate (i + 1) (.int .i64 0))) ∧ Below w.heap.size w (w8.setCell ⟨b, 3, none⟩ v') ∧ w.heap.size ≤ b := by
  have hBd : Below w7.heap.size w7 (w7.alloc o) := (Below.refl _ w7).alloc (Nat.le_refl _) o
  have h8 := rnew_obj hob hc hg
  have hl8 : Own w8 w.heap.size 9 lv (List.replicate (i + 1) z) := own_move (hl.far hBd) fun g hg' => hg.block g (hl.far hBd |>.lt hg').2 fun e => own_two (hl.far hBd) (hc.far hBd) (by decide) hg' e.symm
  refine ⟨⟨lv, v', (obj_step h8 3 v').1, own_obj hl8 h8 (by decide) _ _, ?_⟩, ?_, hlow⟩
  · rw [List.replicate_succ']
    exact own_obj ho h8 (by decide) _ _
  · have hB8 : Below w.heap.size w w8 := (hB.trans (hBd.mono hB.size)).trans ⟨hg.os, hg.tape, hg.output, hg.size, fun k hk => hg.block k (Nat.lt_of_lt_of_le hk (Nat.le_trans hB.size hBd.size)) fun e => by have := (hc.lt e.symm).1; omega⟩
    exact hB8.trans ⟨rfl, rfl, rfl, by simp [World.setCell], fun k hk => (obj_step h8 3 v').2 k (by omega)⟩
set_option maxRecDepth 100000 in
set_option maxHeartbeats 1000000 in
theorem rnew_any (w : World) (n : Nat) (h1 : 1 ≤ n) (h2 : n ≤ 20) : Calls Try.prog 21 #[.int .i64 (n : Int)] w fun e w' => ∃ f : RfF, e = .returned (.pointer (some ⟨f.b, 0, none⟩)) ∧ RAt w' w.heap.size f (StS.new n) ∧ Below w.heap.size w w' := by
  go_enter Try.func21, Try.ntmps21
  go_upto_region 2 with (fail)
  obtain ⟨w1, hw1⟩ : ∃ W, W = w.alloc (.cells #[.slice none 0 0, .slice none 0 0, .int .i64 (-1), .slice none 0 0] 51) := ⟨_, rfl⟩
  obtain ⟨b, hb⟩ : ∃ b, b = w.heap.size := ⟨_, rfl⟩
  rw [← hw1, ← hb]
  have hR1 : RNew w b 0 w1 := by
    refine ⟨⟨.slice none 0 0, .slice none 0 0, by rw [hw1, hb, heap_alloc_new], Own.nil _ _ _, Own.nil _ _ _⟩, by rw [hw1]; exact (Below.refl _ w).alloc (Nat.le_refl _) _, by omega⟩
  have H1 := Lib.hid hR1
  clear hw1 hb hR1
  go_wp2_with (fail)
  go_loopw [4] (fun u wr => ∃ i : Nat, i ≤ n ∧ u = .int .i64 (i : Int) ∧ RNew w b i wr) (fun u _ => n - (intOf u).toNat)
  case atStart => exact ⟨0, Nat.zero_le _, rfl, H1.out⟩
  case round =>
    obtain ⟨i, hi, rfl, hR⟩ := hrel
    by_cases hlt : i < n
    · have hi0 : (0 : Int) ≤ (i : Int) ∧ (i : Int) < n := by omega
      obtain ⟨⟨lv, cv, hob, hl, hc⟩, hB, hlow⟩ := hR
      obtain ⟨la, lc, hlv⟩ := hl.form
      obtain ⟨ln, hln⟩ : ∃ k, k = (List.replicate i (Sv zeroB)).length := ⟨_, rfl⟩
      rw [← hln] at hlv
      subst hlv
      have e0 : wr.drew.cell? ⟨b, 0, none⟩ = some (.slice la ln lc) := by rw [show wr.drew.cell? ⟨b, 0, none⟩ = wr.cell? ⟨b, 0, none⟩ from rfl, cell_of_row _ _ _ _ _ _ hob]; rfl
      have e0' : ∀ o, (wr.alloc o).cell? ⟨b, 0, none⟩ = some (.slice la ln lc) := fun o => by
        rw [World.cell?_alloc_some _ _ _ (by rw [show wr.cell? ⟨b, 0, none⟩ = some (.slice la ln lc) from e0]; rfl)]
        exact e0
      obtain ⟨zs, hzs⟩ : ∃ u, Sv zeroB = .string u := ⟨_, rfl⟩
      rw [hzs] at hl
      have HNO : Hid (∀ w', Calls Try.prog 40 #[] w' fun e w'' => e = .returned (.string zs) ∧ w'' = w') := fun w' => by
        rw [← hzs]
        exact rnoughts_any w'
      have HZS := Lib.hid hzs
      clear hzs
      have HL : Hid (∀ o, Own (wr.alloc o).drew w.heap.size 9 (.slice la ln lc) (List.replicate i (.string zs))) := fun o => hl.far (((Below.refl _ wr).alloc (Nat.le_refl _) o).trans ⟨rfl, rfl, rfl, Nat.le_refl _, fun _ _ => rfl⟩)
      have HCl : Hid (∀ x, (wr.alloc (.cells #[x] 9)).drew.cell? ⟨wr.heap.size, 0, none⟩ = some x) := fun x => by
        show (wr.alloc (.cells #[x] 9)).cell? _ = _
        rw [cell_of_row _ _ _ _ _ _ (heap_alloc_new wr _)]
        rfl
      have HSz : Hid (∀ o, w.heap.size ≤ (wr.alloc o).drew.heap.size) := fun o => by
        have := hB.size
        show _ ≤ (wr.alloc o).heap.size
        simp
        omega
      have hsz : w.heap.size ≤ wr.heap.size := hB.size
      have HR := Lib.hid (And.intro hob (And.intro hl (And.intro hc (And.intro hB hlow))))
      clear hob hl hc hB hlow hln hlt
      go_upto_region 5 with (fail)
      go_region_law (first
        | (refine step_push_str (v := .slice la ln lc) rfl _ _ rfl rfl (HL.out _) rfl (HCl.out _) rfl (by simp; omega) (HSz.out _) ?_; intro v' w6 ho hg hv; obtain ⟨va, vn, vc, rfl⟩ := own_form ho; have h6 := rnew_frame HR.out.1 HR.out.2.1 hg; have e6 : w6.cell? ⟨b, 0, none⟩ = some (.slice la ln lc) := (by rw [cell_of_row _ _ _ _ _ _ h6]; rfl); have f6 := frozen_of_row w6 b 0 _ _ h6; have HW := Lib.hid (And.intro ho (And.intro hg (And.intro hv h6))); clear ho hg hv h6)
        | (rw [if_pos (by rfl)]; go_simp; refine (HNO.out _).mono ?_; rintro e w9 ⟨rfl, rfl⟩; dsimp only))
      all_goals
        obtain ⟨ho, hg, hv, h6⟩ := HW.out
        have hE := rnew_last HR.out.2.1 HR.out.2.2.1 HR.out.2.2.2.1 HR.out.2.2.2.2 hg hv ho h6
        clear ho hg hv h6 e6 f6 e0 e0' HW HL HCl HSz HNO
        obtain ⟨w7, hw7⟩ : ∃ W, W = w6.setCell ⟨b, 0, none⟩ (.slice va vn vc) := ⟨_, rfl⟩
        rw [← hw7] at hE ⊢
        have HE := Lib.hid hE
        have d3 : w7.cell? ⟨b, 3, none⟩ = some cv := by rw [cell_of_row _ _ _ _ _ _ hE.1]; rfl
        clear hE hw7
        go_upto_region 6 with (fail)
        refine wp_region_lit ?_
        iterate 18 go_step
        refine wpList_push Try.underlying36 info_int0 rfl rfl (.tmp 26) (.tmp 27) rfl w.heap.size cv (List.replicate i (.int .i64 0)) rfl (HE.out.2.2.1.far ((Below.refl _ w7).alloc (Nat.le_refl _) _)) (.int .i64 0) w7.heap.size rfl
          (by rw [cell_of_row _ _ _ _ _ _ (heap_alloc_new w7 _)]; rfl) rfl (by simp; omega) (by have := HE.out.2.2.2.size; simp; omega) (by omega) ?_
        intro v2 w8 ho2 hg2 hv2
        have hF := rnew_count HE.out.1 HE.out.2.1 HE.out.2.2.1 HE.out.2.2.2 HR.out.2.2.2.2 hg2 ho2
        rw [← HZS.out] at hF
        have hone := own_one ho2
        have h8 := rnew_obj HE.out.1 HE.out.2.2.1 hg2
        have d8 : w8.cell? ⟨b, 3, none⟩ = some cv := by rw [cell_of_row _ _ _ _ _ _ h8]; rfl
        have f8 := frozen_of_row w8 b 3 _ _ h8
        have HF := Lib.hid (And.intro hF (And.intro hone (And.intro d8 f8)))
        clear hF hone h8 d8 f8 ho2 hg2 hv2 d3
        dsimp only
        iterate 6 go_step
        refine wpList_store1 rfl _ (.tmp 30) (.tmp 28) rfl ⟨b, 3, none⟩ v2 cv rfl rfl HF.out.2.1.1 HF.out.2.1.2 Try.sizeOf36 HF.out.2.2.1 HF.out.2.2.2 ?_
        go_wp2_with (fail)
        exact ⟨⟨i + 1, by omega, by go_num, ⟨HF.out.1.1, HF.out.1.2.1, HF.out.1.2.2⟩⟩, by simp [intOf]; omega⟩
    · obtain rfl : i = n := by omega
      obtain ⟨⟨lv, cv, hob, hl, hc⟩, hB, hlow⟩ := hR
      have HE : Hid (RAt wr w.heap.size ⟨b, lv, .slice none 0 0, cv⟩ (StS.new i)) := by
        refine ⟨ok_new h1 (by omega), hob, ?_, World.ownsRow_nil _ _ _ 2, ?_, hlow⟩
        · show Own _ _ _ _ ((List.replicate i zeroB).map Sv)
          rw [List.map_replicate]
          exact hl
        · show Own _ _ _ _ (countC (List.replicate i 0))
          unfold countC
          rw [List.map_replicate]
          exact hc
      have HB := Lib.hid hB
      clear hob hl hc hB hlow hlt
      go_wp2_with (fail)
      go_ret
      exact ⟨_, rfl, HE.out, HB.out⟩
end Go.Proofs.Ytggecfecodoigaa
