/-
  The contracts of Tag and Good.
-/
import Derived.Test.YtmdacfbhfacniaaDoorHmacNew
namespace Go.Proofs.YtmdacfbhfacniaaDoor
open Go.RowKit

def TagRel (w0 : World) (B0 b : Nat) (ik ok : List (BitVec 8)) (ps : List Part) (k : Value) (wr : World) : Prop :=
  ∃ t : Nat, t ≤ ps.length ∧ k = .int .i64 t ∧ MacAt B0 wr b ik ok (flat (ps.take t)) ∧ Kept B0 w0 wr

set_option maxRecDepth 100000 in
set_option maxHeartbeats 1000000 in
theorem htag_any (w : World) (a ap : Option Addr) (cap capp : Nat) (key : List (BitVec 8)) (ps : List Part) (hS : SrcP w a key.length key) (hcap : key.length ≤ cap) (hmax : cap ≤ 9223372036854775807) (hlen : key.length < 1152921504606846976)
    (hP : PartsAt w ap ps) (hok : ∀ p ∈ ps, p.ok w) (hps : ps.length ≤ 9223372036854775807) (hfl : (flat ps).length < 1152921504606846000) (hT : Tables w) (hgl : 0 < w.heap.size ∧ 1 < w.heap.size) :
    Calls Tryd.prog 7 #[.slice a key.length cap, .slice ap ps.length capp] w (Below0 w (.agg (ShaA (macL key (flat ps))))) := by
  obtain ⟨Y, hY⟩ : ∃ Y : Array Value, Y = noughts32 := ⟨_, rfl⟩
  have hz2 : ∀ w, (zeroValue 25).run Tryd.prog w = .ok (.agg Y) w := by rw [hY]; exact zero32.1
  have HY := Lib.hid hY
  obtain ⟨w0, hw0⟩ : ∃ w0, w0 = w.alloc (.cells Y 25) := ⟨_, rfl⟩
  have hB0 : Below w.heap.size w w0 := by rw [hw0]; exact (Below.refl _ w).alloc (Nat.le_refl _) _
  have hr0 : w0.heap[w.heap.size]? = some (.cells Y 25 (0, 0)) := by rw [hw0]; exact heap_alloc_new w _
  have h0s : w.heap.size < w0.heap.size := (Array.getElem?_eq_some_iff.1 hr0).1
  have HN := Lib.hid (newMac_any w0 a cap key (hS.below hB0) hcap hmax hlen (hT.below hB0) (by omega))
  have H0 := Lib.hid (And.intro hB0 (And.intro hr0 h0s))
  obtain ⟨L, hL⟩ : ∃ L, L = key.length := ⟨_, rfl⟩
  rw [← hL] at HN ⊢
  obtain ⟨K, hK⟩ : ∃ K, K = ps.length := ⟨_, rfl⟩
  rw [← hK] at hps ⊢
  have HK := Lib.hid hK
  have HP := Lib.hid (And.intro hP (And.intro hok (And.intro hT (And.intro hgl hfl))))
  clear hY hB0 hr0 h0s hS hcap hmax hlen hL hK hP hok hT hgl hfl
  go_enter Tryd.func7, Tryd.ntmps7
  go_upto_region 1 with (fail)
  rw [← hw0]
  clear hw0 hz2
  go_wp2_with (fail)
  refine HN.out.mono ?_
  rintro e w1 ⟨b, rfl, hM, hB1⟩
  obtain ⟨B0, hB0e⟩ : ∃ B0, B0 = w0.heap.size := ⟨_, rfl⟩
  rw [← hB0e] at hM hB1
  obtain ⟨ik, hik⟩ : ∃ ik, ik = ipad key := ⟨_, rfl⟩
  obtain ⟨ok, hok⟩ : ∃ ok, ok = opad key := ⟨_, rfl⟩
  rw [← hik, ← hok] at hM
  have HB0 := Lib.hid hB0e
  have HPAD := Lib.hid (And.intro hik hok)
  have H1 := Lib.hid (And.intro hM hB1)
  clear hB0e hik hok hM hB1 HN
  dsimp only
  go_wp2_with (fail)
  go_loopw [12] (TagRel w1 B0 b ik ok ps) (fun k _ => K - (intOf k).toNat)
  case atStart => exact ⟨0, by omega, rfl, H1.out.1, Kept.refl _ _⟩
  case round =>
    obtain ⟨t, ht, rfl, hM, hKp⟩ := hrel
    rw [← HK.out] at ht
    have hBw : Below B0 w0 wr := H1.out.2.trans hKp.1
    have HR := Lib.hid (And.intro hM (And.intro hKp hBw))
    clear hM hKp hBw
    by_cases hlt : t < K
    · obtain ⟨p, hp⟩ : ∃ p, ps[t]? = some p := ⟨ps[t]'(by rw [← HK.out]; exact hlt), List.getElem?_eq_getElem (by rw [← HK.out]; exact hlt)⟩
      have hpm : p ∈ ps := List.mem_of_getElem? hp
      rcases HP.out.1 with hP | ⟨pb, po, rfl, hP⟩
      · rw [hP] at hp
        cases hp
      have i0 : (0 : Int) ≤ (t : Int) ∧ (t : Int) < (K : Int) := by omega
      have hB0 := HB0.out
      have hcell : wr.cell? ⟨pb, po + t, none⟩ = some (.slice p.a p.m.length p.cap) := by
        have h1 := hP t p hp
        have h2 := block_lt_of_cell h1
        have h3 := (H0.out.1.cell (p := ⟨pb, po + t, none⟩) h2).trans h1
        exact (HR.out.2.2.cell (p := ⟨pb, po + t, none⟩) (by simp at h2 ⊢; have := H0.out.2.2; omega)).trans h3
      have HY := Lib.hid (And.intro hp hpm)
      clear hp hpm hP hB0
      go_wp2_with (fail)
      obtain ⟨hM, hKp, hBw⟩ := HR.out
      obtain ⟨hP, hok, hT, hgl, hfl⟩ := HP.out
      obtain ⟨hp, hpm⟩ := HY.out
      have hB0 := HB0.out
      have h0s := H0.out.2.2
      have hpo := hok p hpm
      have hfs := flat_step ps t p hp
      have hftl := flat_take_length ps (t + 1)
      have hT0 := hT.below H0.out.1
      have hsrc : ∀ (g : Nat) (c : Array Value), B0 ≤ g → wr.heap[g]? = some (Obj.cells c 57 (0, 0)) → Src wr g p.a p.m.length p.m 0 := fun g c hg _ => by
        have h1 := (hpo.2.2.src (b := g) (by omega)).belowS H0.out.1
        exact h1.belowS (by rw [← hB0]; exact hBw)
      refine (mwrite_any wr B0 b p.m.length ik ok (flat (ps.take t)) p.m p.a p.cap hM (hT0.below (by rw [← hB0]; exact hBw)) (by omega) rfl hpo.1 hpo.2.1 hsrc (by rw [HPAD.out.1, ipad_length]; rw [hfs, List.length_append] at hftl; omega)).mono ?_
      rintro e w' ⟨rfl, hM', hK'⟩
      rw [← hfs] at hM'
      have HW := Lib.hid (And.intro hM' (hKp.trans hK'))
      clear hM hKp hBw hP hok hT hgl hfl hp hpm hB0 h0s hpo hfs hftl hT0 hsrc hM' hK'
      dsimp only
      go_wp2_with (fail)
      exact ⟨⟨t + 1, by rw [← HK.out]; omega, by go_num, HW.out.1, HW.out.2⟩, by simp [intOf]; omega⟩
    · obtain rfl : t = K := by omega
      obtain ⟨hM, hKp, hBw⟩ := HR.out
      rw [HK.out, List.take_length] at hM
      have hB0 := HB0.out
      have hT0 := (HP.out.2.2.1.below H0.out.1).below (by rw [← hB0]; exact hBw)
      have hgl := HP.out.2.2.2.1
      have hs := H0.out.2.2
      have hs2 := hBw.size
      have hsm := msum_any wr B0 b ik ok (flat ps) hM hT0 (by omega) (by rw [HPAD.out.1, ipad_length]; have := HP.out.2.2.2.2; omega) (by rw [HPAD.out.2, opad_length]; omega)
      have HS := Lib.hid hsm
      clear hM hKp hBw hB0 hT0 hgl hs hs2 hsm
      go_wp2_with (fail)
      refine HS.out.mono ?_
      rintro e w2 ⟨rfl, hB2⟩
      obtain ⟨z, hz⟩ : ∃ z, z = ShaA (outerL ik ok (flat ps)) := ⟨_, rfl⟩
      rw [← hz]
      have hzz : z = ShaA (macL key (flat ps)) := by rw [hz, HPAD.out.1, HPAD.out.2]; rfl
      have hzs : z.size = 32 := by rw [hz, ShaA_size]
      have hi : (Tryd.prog.info? 25).map (·.size) = some z.size := by rw [hzs]; exact zero32.2
      have hz1 : z.all (·.oneCell') = true := by rw [hz]; exact Spell_one _
      have hBw := HR.out.2.2
      have hB3 : Below B0 w0 w2 := hBw.trans (hB2.mono (by rw [HB0.out]; exact hBw.size))
      have hB4 : Below w.heap.size w w2 := H0.out.1.trans (hB3.mono (by rw [HB0.out]; exact H0.out.1.size))
      have hr2 : w2.heap[w.heap.size]? = some (.cells Y 25 (0, 0)) := (hB3.block _ (by rw [HB0.out]; exact H0.out.2.2)).trans H0.out.2.1
      have H5 := Lib.hid (And.intro hzz (And.intro hzs (And.intro hi (And.intro hz1 (And.intro hB4 hr2)))))
      clear hz hzz hzs hi hz1 hBw hB3 hB4 hr2 hB2
      dsimp only
      go_step
      refine wpList_store_row rfl _ _ _ rfl w.heap.size z rfl rfl 25 Y H5.out.2.2.2.2.2 H5.out.2.2.1 (by rw [HY.out, H5.out.2.1]; simp [noughts32]) H5.out.2.2.2.1 ?_
      go_wp2_with (fail)
      obtain ⟨hzz, hzs, hi, hz1, hB6, hr5⟩ := H5.out
      refine bodyPost_ret (v := .agg z) (results_cell_row rfl _ _ w.heap.size 25 z (0, 0) _ rfl (setRow_heap _ _ Y _ _ _ hr5) Tryd.underlying25 rfl hi) rfl ⟨by rw [hzz], ?_⟩
      exact hB6.trans ⟨rfl, rfl, rfl, by simp, fun k hk => setRow_other _ _ _ _ (by omega)⟩

set_option maxRecDepth 100000 in
set_option maxHeartbeats 1000000 in
theorem hgood_any (w : World) (a ap at_ : Option Addr) (cap capp capt : Nat) (key t : List (BitVec 8)) (ps : List Part) (hS : SrcP w a key.length key) (hcap : key.length ≤ cap) (hmax : cap ≤ 9223372036854775807) (hlen : key.length < 1152921504606846976)
    (hP : PartsAt w ap ps) (hok : ∀ p ∈ ps, p.ok w) (hps : ps.length ≤ 9223372036854775807) (hfl : (flat ps).length < 1152921504606846000) (ht : SrcP w at_ t.length t) (htl : t.length ≤ 9223372036854775807)
    (hT : Tables w) (hgl : 0 < w.heap.size ∧ 1 < w.heap.size) :
    Calls Tryd.prog 8 #[.slice a key.length cap, .slice at_ t.length capt, .slice ap ps.length capp] w (Below0 w (.bool (decide (shaL (macL key (flat ps)) = t)))) := by
  obtain ⟨Y, hY⟩ : ∃ Y : Array Value, Y = noughts32 := ⟨_, rfl⟩
  have hz2 : ∀ w, (zeroValue 25).run Tryd.prog w = .ok (.agg Y) w := by rw [hY]; exact zero32.1
  have HY := Lib.hid hY
  have HTG := Lib.hid (htag_any w a ap cap capp key ps hS hcap hmax hlen hP hok hps hfl hT hgl)
  obtain ⟨L, hL⟩ : ∃ L, L = key.length := ⟨_, rfl⟩
  rw [← hL] at HTG ⊢
  obtain ⟨K, hK⟩ : ∃ K, K = ps.length := ⟨_, rfl⟩
  rw [← hK] at HTG ⊢
  obtain ⟨M, hM⟩ : ∃ M, M = t.length := ⟨_, rfl⟩
  rw [← hM]
  obtain ⟨x, hx⟩ : ∃ x, x = shaL (macL key (flat ps)) := ⟨_, rfl⟩
  rw [← hx]
  have HX := Lib.hid (And.intro ht (And.intro htl (And.intro hx hM)))
  clear hY hS hcap hmax hlen hP hok hps hfl ht htl hT hgl hL hK hM hx
  go_enter Tryd.func8, Tryd.ntmps8
  go_wp2_with (fail)
  refine HTG.out.mono ?_
  rintro e w1 ⟨rfl, hB1⟩
  obtain ⟨z, hz⟩ : ∃ z, z = ShaA (macL key (flat ps)) := ⟨_, rfl⟩
  rw [← hz]
  have hzz : z = (x.map B).toArray := by rw [hz, ShaA_is, HX.out.2.2.1]
  have hzs : z.size = 32 := by rw [hz, ShaA_size]
  have hi : (Tryd.prog.info? 25).map (·.size) = some z.size := by rw [hzs]; exact zero32.2
  have hz1 : z.all (·.oneCell') = true := by rw [hz]; exact Spell_one _
  have H1 := Lib.hid (And.intro hzz (And.intro hzs (And.intro hi (And.intro hz1 hB1))))
  clear hz hzz hzs hi hz1 hB1
  dsimp only
  iterate 4 go_step
  refine wpList_store_row rfl _ _ _ rfl w1.heap.size z rfl rfl 25 Y (heap_alloc_new w1 _) H1.out.2.2.1 (by rw [HY.out, H1.out.2.1]; simp [noughts32]) H1.out.2.2.2.1 ?_
  rw [World.setRow_alloc_new]
  obtain ⟨W1, hW1⟩ : ∃ W1, W1 = w1.alloc (.cells z 25) := ⟨_, rfl⟩
  rw [← hW1]
  have hB2 : Below w.heap.size w W1 := by rw [hW1]; exact H1.out.2.2.2.2.alloc H1.out.2.2.2.2.size _
  have hr2 : W1.heap[w1.heap.size]? = some (.cells z 25 (0, 0)) := by rw [hW1]; exact heap_alloc_new w1 _
  have hxl : x.length = 32 := by rw [HX.out.2.2.1, shaL_length]
  have hs1 : SrcP W1 (some ⟨w1.heap.size, 0, none⟩) x.length x := by
    rw [H1.out.1] at hr2
    exact src_row hr2
  have hsm := same_any W1 (some ⟨w1.heap.size, 0, none⟩) at_ x t 32 capt hs1 (HX.out.1.below hB2) (by omega) HX.out.2.1
  rw [hxl, ← HX.out.2.2.2] at hsm
  have HS := Lib.hid hsm
  have H2 := Lib.hid hB2
  clear hW1 hB2 hr2 hxl hs1 hsm hz2
  go_wp2_with (fail)
  refine HS.out.mono ?_
  rintro e w2 ⟨rfl, n, rfl⟩
  dsimp only
  go_wp2_with (fail)
  go_ret
  exact ⟨rfl, below_draws H2.out n⟩
end Go.Proofs.YtmdacfbhfacniaaDoor
