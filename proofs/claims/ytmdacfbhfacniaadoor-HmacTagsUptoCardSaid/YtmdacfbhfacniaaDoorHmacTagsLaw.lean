/-
  The contract of the statement HmacTags.
-/
import Derived.Test.YtmdacfbhfacniaaDoorHmacFirst
import Derived.Test.YtmdacfbhfacniaaDoorHmacRef
namespace Go.Proofs.YtmdacfbhfacniaaDoor
open Go.RowKit

/-- What lies in memory when HmacTags begins its last statement. -/
def HTagsAt (W0 : World) (x : Nat) (ka pa ta : Option Addr) (key t : List (BitVec 8)) (ps : List Part) : Prop :=
  SrcP W0 ka key.length key ∧ PartsAt W0 pa ps ∧ (∀ p ∈ ps, p.ok W0) ∧ SrcP W0 ta t.length t ∧ W0.heap[x]? = some (.cells (ShaA (macL key (flat ps))) 25 (0, 0)) ∧
  Tables W0 ∧ 0 < W0.heap.size ∧ 1 < W0.heap.size
theorem PartsAt.below {w w' : World} {a : Option Addr} {ps : List Part} (h : PartsAt w a ps) (hB : Below w.heap.size w w') : PartsAt w' a ps := by
  rcases h with h | ⟨b, o, h, h'⟩
  · exact .inl h
  · exact .inr ⟨b, o, h, fun i p hp => (hB.cell (p := ⟨b, o + i, none⟩) (block_lt_of_cell (h' i p hp))).trans (h' i p hp)⟩
theorem HTagsAt.below {W0 w : World} {x : Nat} {ka pa ta : Option Addr} {key t : List (BitVec 8)} {ps : List Part} (h : HTagsAt W0 x ka pa ta key t ps) (hG : Below W0.heap.size W0 w) : HTagsAt w x ka pa ta key t ps := by
  obtain ⟨h1, h2, h3, h4, h5, h6, h7, h8⟩ := h
  have hs := hG.size
  exact ⟨h1.below hG, h2.below hG, fun p hp => (h3 p hp).below hG, h4.below hG, (hG.block _ (Array.getElem?_eq_some_iff.1 h5).1).trans h5, h6.below hG, by omega, by omega⟩
def HTagsRel (w1 : World) (ps : List Part) (s i : Value) (wr : World) : Prop :=
  ∃ t : Nat, t ≤ ps.length ∧ i = .int .i64 (t : Int) ∧ s = Sv (flat (ps.take t)) ∧ wr = w1
--VS
def htagsVs (x : Nat) (ka pa ta : Option Addr) (kc pc tc : Nat) (key t : List (BitVec 8)) (ps : List Part) : List StV :=
   [stEq (.slice ka key.length kc),
    stEq (.slice pa ps.length pc),
    stEq (.agg (ShaA (macL key (flat ps)))),
    stEq (.agg (ShaA (macL key (flat ps)))),
    stEq (.bool true),
    stEq (.bool true),
    stEq (.slice ka key.length kc),
    stEq (.slice ta t.length tc),
    stEq (.slice pa ps.length pc),
    stEq (.bool (decide (shaL (macL key (flat ps)) = t))),
    stEq (.slice ta t.length tc),
    stEq (.string (strOf t)),
    stEq (.slice (some ⟨x, 0, none⟩) 32 32),
    stEq (.string (strOf (shaL (macL key (flat ps))))),
    stEq (.bool (decide (shaL (macL key (flat ps)) = t))),
    stEq (.bool true),
    stEq (.bool true),
    stEq (.bool true),
    stEq (.slice ka key.length kc),
    stEq (.slice (some ⟨x, 0, none⟩) 32 32),
    stEq (.slice pa ps.length pc),
    stEq (.bool true),
    stEq (.bool true),
    stEq (.bool true)]
--ENDVS

set_option maxRecDepth 100000 in
set_option maxHeartbeats 2000000 in
theorem hmacTags_any (w : World) (ka pa ta : Option Addr) (kc pc tc : Nat) (key t : List (BitVec 8)) (ps : List Part) (hk : SrcP w ka key.length key) (hkc : key.length ≤ kc) (hkm : kc ≤ 9223372036854775807)
    (hP : PartsAt w pa ps) (hok : ∀ p ∈ ps, p.ok w) (ht : SrcP w ta t.length t) (hT : Tables w) (hgl : 0 < w.heap.size ∧ 1 < w.heap.size)
    (hlen : (flat ps).length ≤ 1048576) (hps : ps.length ≤ 1048576) (hkl : key.length ≤ 1048576) (htl : t.length ≤ 1048576) :
    Calls Tryd.prog 3 #[.slice ka key.length kc, .slice pa ps.length pc, .slice ta t.length tc] w (Below0 w (.bool true)) := by
  obtain ⟨Y, hY⟩ : ∃ Y : Array Value, Y = noughts32 := ⟨_, rfl⟩
  have hz2 : ∀ w, (zeroValue 25).run Tryd.prog w = .ok (.agg Y) w := by rw [hY]; exact zero32.1
  have HY := Lib.hid hY
  obtain ⟨K, hK⟩ : ∃ K, K = ps.length := ⟨_, rfl⟩
  obtain ⟨L, hL⟩ : ∃ L, L = key.length := ⟨_, rfl⟩
  obtain ⟨M, hM⟩ : ∃ M, M = t.length := ⟨_, rfl⟩
  rw [← hK] at hps ⊢
  rw [← hL] at hkl ⊢
  rw [← hM] at htl ⊢
  have HK := Lib.hid hK
  have HLM := Lib.hid (And.intro hL hM)
  have HX := Lib.hid (And.intro hk (And.intro hkc (And.intro hkm ht)))
  have HP := Lib.hid (And.intro hP (And.intro hok (And.intro hT (And.intro hgl hlen))))
  clear hY hK hL hM hk hkc hkm ht hP hok hT hgl hlen
  go_enter Tryd.func3, Tryd.ntmps3
  go_wp2_with (fail)
  refine (hfirst_any w HP.out.2.2.1 HP.out.2.2.2.1).mono ?_
  rintro e w1 ⟨rfl, hB1⟩
  have HB := Lib.hid hB1
  clear hB1
  dsimp only
  go_wp2_with (fail)
  go_loopw [7, 15] (HTagsRel w1 ps) (fun _ i _ => K - (intOf i).toNat)
  case atStart => exact ⟨0, by omega, rfl, rfl, rfl⟩
  case round =>
    obtain ⟨q, hq, rfl, rfl, rfl⟩ := hrel
    rw [← HK.out] at hq
    by_cases hlt : q < K
    · obtain ⟨p, hp⟩ : ∃ p, ps[q]? = some p := ⟨ps[q]'(by rw [← HK.out]; exact hlt), List.getElem?_eq_getElem (by rw [← HK.out]; exact hlt)⟩
      have hpm : p ∈ ps := List.mem_of_getElem? hp
      rcases HP.out.1 with hP | ⟨pb, po, rfl, hP⟩
      · rw [hP] at hp
        cases hp
      have i0 : (0 : Int) ≤ (q : Int) ∧ (q : Int) < (K : Int) := by omega
      have hcell : wr.cell? ⟨pb, po + q, none⟩ = some (.slice p.a p.m.length p.cap) := by
        have h1 := hP q p hp
        have h2 := block_lt_of_cell h1
        exact (HB.out.cell (p := ⟨pb, po + q, none⟩) h2).trans h1
      have hcv : (convert 22 9 (.slice p.a p.m.length p.cap)).run Tryd.prog wr = .ok (Sv p.m) wr := run_conv_str wr p.a p.cap p.m ((HP.out.2.1 p hpm).below HB.out).2.2
      have hfs := flat_step ps q p hp
      have hfl := flat_take_length ps (q + 1)
      obtain ⟨F, hF⟩ : ∃ F, F = flat (ps.take q) := ⟨_, rfl⟩
      rw [← hF] at hfs ⊢
      have hadd : ∀ w, (binOp .add 9 (Sv F) (Sv p.m)).run Tryd.prog w = .ok (Sv (F ++ p.m)) w := fun w => run_add_Sv w F p.m (by rw [hfs, List.length_append] at hfl; have := HP.out.2.2.2.2; omega)
      obtain ⟨pa, hpa⟩ : ∃ x, x = p.a := ⟨_, rfl⟩
      obtain ⟨pm, hpm2⟩ : ∃ x, x = p.m := ⟨_, rfl⟩
      obtain ⟨pl, hpl⟩ : ∃ x, x = pm.length := ⟨_, rfl⟩
      obtain ⟨pc, hpc⟩ : ∃ x, x = p.cap := ⟨_, rfl⟩
      rw [← hpm2] at hfs hadd hcv hcell
      rw [← hpa, ← hpc, ← hpl] at hcv hcell
      have HY := Lib.hid hfs
      clear hp hpm hP hfs hfl hF hpa hpm2 hpl hpc
      go_wp2_with (fail)
      exact ⟨⟨q + 1, by rw [← HK.out]; omega, by go_num, by rw [HY.out], rfl⟩, by simp [intOf]; omega⟩
    · obtain rfl : q = K := by omega
      rw [HK.out, List.take_length, ← HK.out]
      obtain ⟨wf, rfl⟩ : ∃ x, x = wr := ⟨wr, rfl⟩
      obtain ⟨F, hF⟩ : ∃ F, F = flat ps := ⟨_, rfl⟩
      rw [← hF]
      obtain ⟨N, hN⟩ : ∃ N, N = F.length := ⟨_, rfl⟩
      have hlenF : ∀ w ty, (Builtin.len_ #[9] ty #[Sv F]).run Tryd.prog w = .ok (.int .i64 (N : Int)) w := fun w ty => by rw [run_len_Sv w ty F, hN]
      have HF := Lib.hid (And.intro hF hN)
      clear hF hN hq hlt
      by_cases h1 : 200 < L
      · have h1' : (200 : Int) < (L : Int) := by omega
        go_wp2_with (fail)
        go_ret
        exact ⟨rfl, HB.out⟩
      have h1' : ¬ (200 : Int) < (L : Int) := by omega
      by_cases h2 : 500 < N
      · have h2' : (500 : Int) < (N : Int) := by omega
        go_wp2_with (fail)
        go_ret
        exact ⟨rfl, HB.out⟩
      have h2' : ¬ (500 : Int) < (N : Int) := by omega
      by_cases h3 : 50 < q
      · have h3' : (50 : Int) < (q : Int) := by omega
        go_wp2_with (fail)
        go_ret
        exact ⟨rfl, HB.out⟩
      have h3' : ¬ (50 : Int) < (q : Int) := by omega
      by_cases h4 : 100 < M
      · have h4' : (100 : Int) < (M : Int) := by omega
        go_wp2_with (fail)
        go_ret
        exact ⟨rfl, HB.out⟩
      have h4' : ¬ (100 : Int) < (M : Int) := by omega
      have HN := Lib.hid (And.intro h1 (And.intro h2 (And.intro h3 h4)))
      clear h1 h2 h3 h4
      have hcv : (convert 22 9 (.slice ka L kc)).run Tryd.prog wf = .ok (Sv key) wf := by
        have := run_conv_str wf ka kc key (HX.out.1.below HB.out)
        rwa [← HLM.out.1] at this
      have HR := Lib.hid (rtag_any wf key F (by have := HLM.out.1; have := HN.out.1; omega) (by have := HF.out.2; have := HN.out.2.1; omega))
      go_wp2_with (fail)
      refine HR.out.mono ?_
      rintro e w2 ⟨rfl, hB2⟩
      clear hcv hlenF h1' h2' h3' h4'
      obtain ⟨z, hz⟩ : ∃ z, z = ShaA (macL key F) := ⟨_, rfl⟩
      rw [← hz]
      have hzs : z.size = 32 := by rw [hz, ShaA_size]
      have hi : (Tryd.prog.info? 25).map (·.size) = some z.size := by rw [hzs]; exact zero32.2
      have hz1 : z.all (·.oneCell') = true := by rw [hz]; exact Spell_one _
      have H2 := Lib.hid (And.intro hz (And.intro hzs (And.intro hi (And.intro hz1 (HB.out.trans (hB2.mono HB.out.size))))))
      clear hz hzs hi hz1 hB2
      dsimp only
      iterate 4 go_step
      refine wpList_store_row rfl _ _ _ rfl w2.heap.size z rfl rfl 25 Y (heap_alloc_new w2 _) H2.out.2.2.1 (by rw [HY.out, H2.out.2.1]; simp [noughts32]) H2.out.2.2.2.1 ?_
      rw [World.setRow_alloc_new]
      obtain ⟨W0, hW0⟩ : ∃ W0, W0 = w2.alloc (.cells z 25) := ⟨_, rfl⟩
      rw [← hW0]
      have hB3 : Below w.heap.size w W0 := by rw [hW0]; exact H2.out.2.2.2.2.alloc H2.out.2.2.2.2.size _
      have hx : W0.heap[w2.heap.size]? = some (.cells (ShaA (macL key (flat ps))) 25 (0, 0)) := by rw [hW0, ← HF.out.1, ← H2.out.1]; exact heap_alloc_new w2 _
      have hF : HTagsAt W0 w2.heap.size ka pa ta key t ps ∧ Below w.heap.size w W0 := by
        obtain ⟨hP, hok, hT, hgl, hlen⟩ := HP.out
        obtain ⟨hk, hkc, hkm, ht⟩ := HX.out
        have := hB3.size
        exact ⟨⟨hk.below hB3, hP.below hB3, fun p hp => (hok p hp).below hB3, ht.below hB3, hx, hT.below hB3, by omega, by omega⟩, hB3⟩
      obtain ⟨x, hxe⟩ : ∃ x, x = w2.heap.size := ⟨_, rfl⟩
      rw [← hxe] at hF ⊢
      have HFF := Lib.hid hF
      have HBD : Hid (key.length ≤ 200 ∧ (flat ps).length ≤ 500 ∧ ps.length ≤ 50 ∧ t.length ≤ 100 ∧ key.length ≤ kc ∧ kc ≤ 9223372036854775807) := by
        obtain ⟨h1, h2, h3, h4⟩ := HN.out
        obtain ⟨e1, e2⟩ := HLM.out
        have e3 := HF.out
        have e4 := HX.out.2
        have e5 := HK.out
        rw [e3.1] at e3
        exact ⟨by omega, by omega, by omega, by omega, e4.1, e4.2.1⟩
      obtain ⟨eL, eM⟩ := HLM.out
      have eK := HK.out
      have HFe := HF.out.1
      clear hW0 hB3 hx hF hxe H2 HR HN HLM HK HP HX HY HF HB hz2
      subst eL eM eK HFe
      go_upto_region 12 with (fail)
--REGION
      refine wp_region_local (by kernel_rfl) (vOf (htagsVs x ka pa ta kc pc tc key t ps)) (fun w' => Below W0.heap.size W0 w') Lay (vOf_st _) (by kernel_rfl) ⟨rfl, rfl, rfl, Nat.le_refl _, fun _ _ => rfl⟩ ⟨trivial, trivial, trivial, trivial, trivial, trivial, fun _ _ h => h, fun _ _ h => h, fun _ _ h => h, fun _ _ h => h, fun _ _ h => h, fun _ _ h => h, fun _ _ h => h, fun _ _ h => h, fun _ _ h => h, fun _ _ h => h, trivial, trivial, fun _ _ h => h, fun _ _ h => h, fun _ _ h => h, fun _ _ h => h, trivial, trivial, trivial⟩ ?_ ?_
      · have hF := HFF.out.1
        obtain ⟨b1, b2, b3, b4, hkc, hkm⟩ := HBD.out
        clear HFF HBD
        have hi : (Tryd.prog.info? 25).map (·.size) = some (ShaA (macL key (flat ps))).size := by rw [ShaA_size]; exact zero32.2
        have HE := Lib.hid (eql_sum (macL key (flat ps)) (macL key (flat ps)) rfl)
        refine ⟨?_, ?_, ?_, ?_, ?_, ?_, ?_, ?_, ?_, ?_, ?_, ?_, ?_, ?_, ?_, ?_, ?_, ?_, ?_, ?_, ?_, ?_, ?_, ?_, trivial⟩
        · intro a w hG hout hpre K hK
          have q0 := ev_of ((hout 0 rfl).trans (show _ = .slice ka key.length kc from rfl))
          clear hout hpre
          go_step
          exact hK _ _ rfl hG (Lay.refl _)
        · intro a w hG hout hpre K hK
          have q1 := ev_of ((hout 1 rfl).trans (show _ = .slice pa ps.length pc from rfl))
          clear hout hpre
          go_step
          exact hK _ _ rfl hG (Lay.refl _)
        · intro a w hG hout hpre K hK
          obtain ⟨p0, p1, _⟩ := hpre
          have q46 := ev_of (show a.eval (.tmp 46) = .slice ka key.length kc from p0)
          have q47 := ev_of (show a.eval (.tmp 47) = .slice pa ps.length pc from p1)
          obtain ⟨hk, hP, hok, ht, hx, hT, hgl⟩ := hF.below hG
          have HS := Lib.hid (htag_any w ka pa kc pc key ps hk hkc hkm (by omega) hP hok (by omega) (by omega) hT hgl)
          clear hout hk hP hok ht hx hT hgl
          go_step
          refine HS.out.mono ?_
          rintro e w1 ⟨rfl, hB⟩
          exact hK _ _ rfl (hG.trans (hB.mono hG.size)) (Lay.below hB)
        · intro a w hG hout hpre K hK
          refine wp_load_row _ _ rfl x ((hout 10 rfl).trans rfl) 25 (ShaA (macL key (flat ps))) (0, 0) _ (hF.below hG).2.2.2.2.1 Tryd.underlying25 rfl hi ?_
          exact hK _ _ rfl hG (Lay.refl _)
        · intro a w hG hout hpre K hK
          obtain ⟨p0, p1, _⟩ := hpre
          have q48 := ev_of (show a.eval (.tmp 48) = .agg (ShaA (macL key (flat ps))) from p0)
          have q49 := ev_of (show a.eval (.tmp 49) = .agg (ShaA (macL key (flat ps))) from p1)
          clear hout
          obtain ⟨e1, e2, e3⟩ := HE.out
          go_step
          exact hK _ _ rfl hG (Lay.refl _)
        · intro a w hG hout hpre K hK
          obtain ⟨p0, _⟩ := hpre
          have q50 := ev_of (show a.eval (.tmp 50) = .bool true from p0)
          clear hout
          go_step
          exact hK _ _ rfl hG (Lay.refl _)
        · intro a w hG hout hpre K hK
          have q0 := ev_of ((hout 0 rfl).trans (show _ = .slice ka key.length kc from rfl))
          clear hout hpre
          go_step
          exact hK _ _ rfl hG (Lay.refl _)
        · intro a w hG hout hpre K hK
          have q2 := ev_of ((hout 2 rfl).trans (show _ = .slice ta t.length tc from rfl))
          clear hout hpre
          go_step
          exact hK _ _ rfl hG (Lay.refl _)
        · intro a w hG hout hpre K hK
          have q1 := ev_of ((hout 1 rfl).trans (show _ = .slice pa ps.length pc from rfl))
          clear hout hpre
          go_step
          exact hK _ _ rfl hG (Lay.refl _)
        · intro a w hG hout hpre K hK
          obtain ⟨p0, p1, p2, _⟩ := hpre
          have q52 := ev_of (show a.eval (.tmp 52) = .slice ka key.length kc from p0)
          have q53 := ev_of (show a.eval (.tmp 53) = .slice ta t.length tc from p1)
          have q54 := ev_of (show a.eval (.tmp 54) = .slice pa ps.length pc from p2)
          obtain ⟨hk, hP, hok, ht, hx, hT, hgl⟩ := hF.below hG
          have ht2 := ht
          have hs := hgood_any w ka pa ta kc pc tc key t ps hk hkc hkm (by omega) hP hok (by omega) (by omega) ht2 (by omega) hT hgl
          have HS := Lib.hid hs
          clear hout hs hk hP hok ht hx hT hgl ht2
          go_step
          refine HS.out.mono ?_
          rintro e w1 ⟨rfl, hB⟩
          exact hK _ _ rfl (hG.trans (hB.mono hG.size)) (Lay.below hB)
        · intro a w hG hout hpre K hK
          have q2 := ev_of ((hout 2 rfl).trans (show _ = .slice ta t.length tc from rfl))
          clear hout hpre
          go_step
          exact hK _ _ rfl hG (Lay.refl _)
        · intro a w hG hout hpre K hK
          obtain ⟨p0, _⟩ := hpre
          have q56 := ev_of (show a.eval (.tmp 56) = .slice ta t.length tc from p0)
          clear hout
          have hstr := run_conv_str w ta tc t (hF.below hG).2.2.2.1
          go_step
          exact hK _ _ rfl hG (Lay.refl _)
        · intro a w hG hout hpre K hK
          have q10 := ev_of ((hout 10 rfl).trans (show _ = .pointer (some ⟨x, 0, none⟩) from rfl))
          clear hout hpre
          go_step
          exact hK _ _ rfl hG (Lay.refl _)
        · intro a w hG hout hpre K hK
          obtain ⟨p0, _⟩ := hpre
          have q58 := ev_of (show a.eval (.tmp 58) = .slice (some ⟨x, 0, none⟩) 32 32 from p0)
          clear hout
          have hstr := run_conv_str w (some ⟨x, 0, none⟩) 32 (shaL (macL key (flat ps))) (src_row (e := 25) (fr := (0, 0)) (by rw [(hF.below hG).2.2.2.2.1, ShaA_is]))
          rw [shaL_length] at hstr
          go_step
          exact hK _ _ rfl hG (Lay.refl _)
        · intro a w hG hout hpre K hK
          obtain ⟨p0, p1, _⟩ := hpre
          have q57 := ev_of (show a.eval (.tmp 57) = .string (strOf t) from p0)
          have q59 := ev_of (show a.eval (.tmp 59) = .string (strOf (shaL (macL key (flat ps)))) from p1)
          clear hout
          go_step
          refine hK _ _ (show _ = Value.bool (decide (shaL (macL key (flat ps)) = t)) from ?_) hG (Lay.refl _)
          rw [show decide (shaL (macL key (flat ps)) = t) = decide (t = shaL (macL key (flat ps))) from decide_eq_decide.2 eq_comm, ← str_eq]
        · intro a w hG hout hpre K hK
          obtain ⟨p0, p1, _⟩ := hpre
          have q55 := ev_of (show a.eval (.tmp 55) = .bool (decide (shaL (macL key (flat ps)) = t)) from p0)
          have q60 := ev_of (show a.eval (.tmp 60) = .bool (decide (shaL (macL key (flat ps)) = t)) from p1)
          clear hout
          go_step
          exact hK _ _ rfl hG (Lay.refl _)
        · intro a w hG hout hpre K hK
          obtain ⟨p0, p1, _⟩ := hpre
          have q51 := ev_of (show a.eval (.tmp 51) = .bool true from p0)
          have q61 := ev_of (show a.eval (.tmp 61) = .bool true from p1)
          clear hout
          go_step
          exact hK _ _ rfl hG (Lay.refl _)
        · intro a w hG hout hpre K hK
          obtain ⟨p0, _⟩ := hpre
          have q62 := ev_of (show a.eval (.tmp 62) = .bool true from p0)
          clear hout
          go_step
          exact hK _ _ rfl hG (Lay.refl _)
        · intro a w hG hout hpre K hK
          have q0 := ev_of ((hout 0 rfl).trans (show _ = .slice ka key.length kc from rfl))
          clear hout hpre
          go_step
          exact hK _ _ rfl hG (Lay.refl _)
        · intro a w hG hout hpre K hK
          have q10 := ev_of ((hout 10 rfl).trans (show _ = .pointer (some ⟨x, 0, none⟩) from rfl))
          clear hout hpre
          go_step
          exact hK _ _ rfl hG (Lay.refl _)
        · intro a w hG hout hpre K hK
          have q1 := ev_of ((hout 1 rfl).trans (show _ = .slice pa ps.length pc from rfl))
          clear hout hpre
          go_step
          exact hK _ _ rfl hG (Lay.refl _)
        · intro a w hG hout hpre K hK
          obtain ⟨p0, p1, p2, _⟩ := hpre
          have q64 := ev_of (show a.eval (.tmp 64) = .slice ka key.length kc from p0)
          have q65 := ev_of (show a.eval (.tmp 65) = .slice (some ⟨x, 0, none⟩) 32 32 from p1)
          have q66 := ev_of (show a.eval (.tmp 66) = .slice pa ps.length pc from p2)
          obtain ⟨hk, hP, hok, ht, hx, hT, hgl⟩ := hF.below hG
          have ht2 : SrcP w (some ⟨x, 0, none⟩) (shaL (macL key (flat ps))).length (shaL (macL key (flat ps))) := src_row (e := 25) (fr := (0, 0)) (by rw [hx, ShaA_is])
          have hxl : (shaL (macL key (flat ps))).length = 32 := shaL_length _
          have hs := hgood_any w ka pa (some ⟨x, 0, none⟩) kc pc 32 key (shaL (macL key (flat ps))) ps hk hkc hkm (by omega) hP hok (by omega) (by omega) ht2 (by omega) hT hgl
          rw [decide_eq_true rfl, hxl] at hs
          clear hxl
          have HS := Lib.hid hs
          clear hout hs hk hP hok ht hx hT hgl ht2
          go_step
          refine HS.out.mono ?_
          rintro e w1 ⟨rfl, hB⟩
          exact hK _ _ rfl (hG.trans (hB.mono hG.size)) (Lay.below hB)
        · intro a w hG hout hpre K hK
          obtain ⟨p0, p1, _⟩ := hpre
          have q63 := ev_of (show a.eval (.tmp 63) = .bool true from p0)
          have q67 := ev_of (show a.eval (.tmp 67) = .bool true from p1)
          clear hout
          go_step
          exact hK _ _ rfl hG (Lay.refl _)
        · intro a w hG hout hpre K hK
          obtain ⟨p0, _⟩ := hpre
          have q68 := ev_of (show a.eval (.tmp 68) = .bool true from p0)
          clear hout
          go_step
          exact hK _ _ rfl hG (Lay.refl _)
      · intro a w' hG hd hsz hout hleft
        have hr : a.eval (.tmp 6) = .bool true := hleft 23 6 rfl
        clear hout hleft
        go_wp2_with (fail)
        refine bodyPost_ret (v := .bool true) ?_ (hd.trans rfl) ⟨rfl, HFF.out.2.trans (hG.mono HFF.out.2.size)⟩
        rw [results_tmp rfl, ← hr]
        rfl
--ENDREGION
end Go.Proofs.YtmdacfbhfacniaaDoor
