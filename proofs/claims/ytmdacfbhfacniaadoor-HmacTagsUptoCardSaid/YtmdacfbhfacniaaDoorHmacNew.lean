/-
  The contract of New.
-/
import Derived.Test.YtmdacfbhfacniaaDoorHmacMac
import Derived.Test.YtmdacfbhfacniaaDoorLocalFrame
namespace Go.Proofs.YtmdacfbhfacniaaDoor
open Go.RowKit

/-- What an operation leaves, told so that it stays true while the world grows. -/
structure StB where
  p : World → Value → Prop
  st : ∀ w w' v, Below w.heap.size w w' → p w v → p w' v
def sbTrue : StB := ⟨fun _ _ => True, fun _ _ _ _ h => h⟩
def sbEq (x : Value) : StB := ⟨fun _ v => v = x, fun _ _ _ _ h => h⟩
/-- A hash of its own. -/
def sbHash (B0 : Nat) (l : List (BitVec 8)) : StB := ⟨fun w v => ∃ g, v = .pointer (some ⟨g, 0, none⟩) ∧ B0 ≤ g ∧ HashIn w g l, fun _ _ _ h ⟨g, hv, hb, hg⟩ => ⟨g, hv, hb, hg.below h hg.lt⟩⟩
def sbTwo (B0 : Nat) (ik ok : List (BitVec 8)) : StB := ⟨fun w v => ∃ gi go, v = .agg #[.pointer (some ⟨gi, 0, none⟩), .pointer (some ⟨go, 0, none⟩), .pointer none] ∧ B0 ≤ gi ∧ B0 ≤ go ∧ HashIn w gi ik ∧ HashIn w go ok,
  fun _ _ _ h ⟨gi, go, hv, hb, hb2, hg, hg2⟩ => ⟨gi, go, hv, hb, hb2, hg.below h hg.lt, hg2.below h hg2.lt⟩⟩
/-- A mac that was not reset. -/
def sbMac (B0 : Nat) (ik ok : List (BitVec 8)) : StB := ⟨fun w v => ∃ b gi go, v = .pointer (some ⟨b, 0, none⟩) ∧ w.heap[b]? = some (Obj.cells #[.pointer (some ⟨gi, 0, none⟩), .pointer (some ⟨go, 0, none⟩), .pointer none] 47 (0, 0)) ∧
    B0 ≤ b ∧ B0 ≤ gi ∧ B0 ≤ go ∧ HashIn w gi ik ∧ HashIn w go ok,
  fun _ _ _ h ⟨b, gi, go, hv, hm, k0, k1, k2, hg, hg2⟩ => ⟨b, gi, go, hv, (h.block b (Array.getElem?_eq_some_iff.1 hm).1).trans hm, k0, k1, k2, hg.below h hg.lt, hg2.below h hg2.lt⟩⟩
def vOfB (Vs : List StB) : Nat → World → Value → Prop := fun i => (Vs.getD i sbTrue).p
theorem vOfB_st (Vs : List StB) : ∀ i w w' v, Below w.heap.size w w' → vOfB Vs i w v → vOfB Vs i w' v := fun i => (Vs.getD i sbTrue).st

def NewMac (w : World) (key : List (BitVec 8)) (e : Ending) (w' : World) : Prop :=
  ∃ b, e = .returned (.pointer (some ⟨b, 0, none⟩)) ∧ MacAt w.heap.size w' b (ipad key) (opad key) [] ∧ Below w.heap.size w w'

def newVs (B0 : Nat) (kr : Array Value) (ik ok : List (BitVec 8)) : List StB := [sbEq (.agg kr), sbHash B0 ik, sbEq (.agg kr), sbHash B0 ok, sbTwo B0 ik ok, sbMac B0 ik ok, sbMac B0 ik ok]

set_option maxRecDepth 100000 in
set_option maxHeartbeats 1000000 in
theorem newMac_any (w : World) (a : Option Addr) (cap : Nat) (key : List (BitVec 8)) (hS : SrcP w a key.length key) (hcap : key.length ≤ cap) (hmax : cap ≤ 9223372036854775807) (hlen : key.length < 1152921504606846976)
    (hT : Tables w) (hgl : 0 < w.heap.size ∧ 1 < w.heap.size) :
    Calls Tryd.prog 9 #[.slice a key.length cap] w (NewMac w key) := by
  obtain ⟨Z, hZ⟩ : ∃ Z : Array Value, Z = Array.replicate 64 (.int .u8 0) := ⟨_, rfl⟩
  have hz : ∀ w, (zeroValue 42).run Tryd.prog w = .ok (.agg Z) w := by rw [hZ]; exact zero64.1
  have HZ := Lib.hid hZ
  have HW := Lib.hid (whole_any w a cap key hS hcap hmax hlen hT hgl)
  have HX := Lib.hid (And.intro hT hgl)
  obtain ⟨L, hL⟩ : ∃ L, L = key.length := ⟨_, rfl⟩
  rw [← hL] at HW ⊢
  clear hZ hS hT hgl hL hcap hmax hlen
  go_enter Tryd.func9, Tryd.ntmps9
  go_wp2_with (fail)
  refine HW.out.mono ?_
  rintro e w1 ⟨rfl, hB1⟩
  obtain ⟨kr, hkr⟩ : ∃ kr, kr = ((keyL key).map B).toArray := ⟨_, rfl⟩
  rw [← hkr]
  have hks : kr.size = 64 := by rw [hkr, row_size, keyL_length]
  have hi : (Tryd.prog.info? 42).map (·.size) = some kr.size := by rw [hks]; exact zero64.2
  have hk1 : kr.all (·.oneCell') = true := by rw [hkr]; exact row_one _
  have HK := Lib.hid (And.intro hkr (And.intro hks (And.intro hi (And.intro hk1 hB1))))
  clear hkr hks hi hk1 hB1
  dsimp only
  iterate 4 go_step
  refine wpList_store_row rfl _ _ _ rfl w1.heap.size kr rfl rfl 42 Z (heap_alloc_new w1 _) HK.out.2.2.1 (by rw [HZ.out, HK.out.2.1]; simp) HK.out.2.2.2.1 ?_
  rw [World.setRow_alloc_new]
  obtain ⟨W0, hW0⟩ : ∃ W0, W0 = w1.alloc (.cells kr 42) := ⟨_, rfl⟩
  rw [← hW0]
  have hB2 : Below w.heap.size w W0 := by rw [hW0]; exact HK.out.2.2.2.2.alloc HK.out.2.2.2.2.size _
  have hr : W0.heap[w1.heap.size]? = some (.cells kr 42 (0, 0)) := by rw [hW0]; exact heap_alloc_new w1 _
  have H0 := Lib.hid (And.intro hB2 hr)
  clear hW0 hB2 hr hz
  go_upto_region 2 with (fail)
  refine wp_region_local_frame (by kernel_rfl) (vOfB (newVs w.heap.size kr (ipad key) (opad key))) (fun w' => Below W0.heap.size W0 w') (fun w w' => Below w.heap.size w w') (vOfB_st _) (by kernel_rfl) ⟨rfl, rfl, rfl, Nat.le_refl _, fun _ _ => rfl⟩ ⟨trivial, trivial, trivial, trivial, trivial, trivial, trivial, trivial⟩ ?_ ?_
  · have HF : Hid (Tables W0 ∧ 0 < W0.heap.size ∧ 1 < W0.heap.size) := by
      obtain ⟨hT, hgl⟩ := HX.out
      have := H0.out.1.size
      exact ⟨hT.below H0.out.1, by omega, by omega⟩
    refine ⟨?_, ?_, ?_, ?_, ?_, ?_, ?_, trivial⟩
    · intro a w' hG hout hpre K hK
      refine wp_load_row _ _ rfl w1.heap.size ((hout 3 rfl).trans rfl) 42 kr (0, 0) _ ((hG.block _ (Array.getElem?_eq_some_iff.1 H0.out.2).1).trans H0.out.2) Tryd.underlying42 rfl HK.out.2.2.1 ?_
      exact hK _ _ rfl hG (Below.refl _ _)
    · intro a w' hG hout hpre K hK
      obtain ⟨p0, _⟩ := hpre
      have q7 := ev_of (show a.eval (.tmp 7) = .agg kr from p0)
      have HG := Lib.hid hG
      have hb := begin_any w' (keyL key) 0x36 (keyL_length key) (HF.out.1.below hG) (by have := hG.size; have := HF.out.2; omega)
      rw [← HK.out.1] at hb
      have HB := Lib.hid hb
      clear hout hb hG p0
      go_step
      refine HB.out.mono ?_
      rintro e w3 ⟨g, c, rfl, hg, hc, hH, hB⟩
      have hG := HG.out
      exact hK _ _ ⟨g, rfl, by have := hG.size; have := H0.out.1.size; omega, c, hc, hH⟩ (hG.trans (hB.mono hG.size)) hB
    · intro a w' hG hout hpre K hK
      refine wp_load_row _ _ rfl w1.heap.size ((hout 3 rfl).trans rfl) 42 kr (0, 0) _ ((hG.block _ (Array.getElem?_eq_some_iff.1 H0.out.2).1).trans H0.out.2) Tryd.underlying42 rfl HK.out.2.2.1 ?_
      exact hK _ _ rfl hG (Below.refl _ _)
    · intro a w' hG hout hpre K hK
      obtain ⟨p0, _⟩ := hpre
      have q7 := ev_of (show a.eval (.tmp 9) = .agg kr from p0)
      have HG := Lib.hid hG
      have hb := begin_any w' (keyL key) 0x5c (keyL_length key) (HF.out.1.below hG) (by have := hG.size; have := HF.out.2; omega)
      rw [← HK.out.1] at hb
      have HB := Lib.hid hb
      clear hout hb hG p0
      go_step
      refine HB.out.mono ?_
      rintro e w3 ⟨g, c, rfl, hg, hc, hH, hB⟩
      have hG := HG.out
      exact hK _ _ ⟨g, rfl, by have := hG.size; have := H0.out.1.size; omega, c, hc, hH⟩ (hG.trans (hB.mono hG.size)) hB
    · intro a w' hG hout hpre K hK
      obtain ⟨p0, p1, _⟩ := hpre
      obtain ⟨gi, hv1, k1, h1⟩ := show (sbHash w.heap.size (ipad key)).p w' (a.eval (.tmp 8)) from p0
      obtain ⟨go, hv2, k2, h2⟩ := show (sbHash w.heap.size (opad key)).p w' (a.eval (.tmp 10)) from p1
      have q1 := ev_of hv1
      have q2 := ev_of hv2
      have HG := Lib.hid (And.intro hG (And.intro h1 h2))
      have hz47 : ∀ w, (zeroValue 47).run Tryd.prog w = .ok (.agg #[.pointer none, .pointer none, .pointer none]) w := fun w => rfl
      clear hout hG h1 h2 hv1 hv2
      go_step
      obtain ⟨hG, h1, h2⟩ := HG.out
      exact hK _ _ ⟨gi, go, rfl, k1, k2, h1, h2⟩ hG (Below.refl _ _)
    · intro a w' hG hout hpre K hK
      obtain ⟨p0, _⟩ := hpre
      obtain ⟨gi, go, hv, k1, k2, h1, h2⟩ := show (sbTwo w.heap.size (ipad key) (opad key)).p w' (a.eval (.tmp 11)) from p0
      have q := ev_of hv
      have HG := Lib.hid (And.intro hG (And.intro h1 h2))
      clear hout hG h1 h2 hv
      go_step
      obtain ⟨hG, h1, h2⟩ := HG.out
      have hs := hG.size
      have hs2 := H0.out.1.size
      have hB : Below w'.heap.size w' (w'.alloc (.cells #[.pointer (some ⟨gi, 0, none⟩), .pointer (some ⟨go, 0, none⟩), .pointer none] 47)) := (Below.refl _ w').alloc (Nat.le_refl _) _
      exact hK _ _ ⟨w'.heap.size, gi, go, rfl, heap_alloc_new w' _, by omega, k1, k2, h1.below hB h1.lt, h2.below hB h2.lt⟩ (hG.trans (hB.mono hs)) hB
    · intro a w' hG hout hpre K hK
      obtain ⟨p0, _⟩ := hpre
      unfold Oper.wp
      exact hK _ _ p0 hG (Below.refl _ _)
  · intro vs w2 hG hlen hV
    match vs, hlen, hV with
    | [v0, v1, v2, v3, v4, v5, v6], _, hV =>
      obtain ⟨b, gi, go, hv, hb, k0, k1, k2, h1, h2⟩ := show (sbMac w.heap.size (ipad key) (opad key)).p w2 v6 from hV 6 4 v6 rfl rfl
      have HR := Lib.hid (mreset_row w2 w.heap.size b gi go _ (ipad key) (opad key) hb h1 h2 k0 k1 k2)
      have HG := Lib.hid (H0.out.1.trans (hG.mono H0.out.1.size))
      subst hv
      clear hV hb h1 h2 k0 k1 k2 hG
      simp only [putsL, List.tail_cons, List.headD_cons]
      go_wp2_with (fail)
      refine HR.out.mono ?_
      rintro e w3 ⟨rfl, hM, hKp⟩
      have H3 := Lib.hid (And.intro hM hKp)
      clear hM hKp
      dsimp only
      go_wp2_with (fail)
      go_ret
      exact ⟨b, rfl, H3.out.1, HG.out.trans H3.out.2.1⟩
end Go.Proofs.YtmdacfbhfacniaaDoor
