/-
  The contract of package event's number: a word's number, 0 where it is none.
-/
import Derived.Test.YtmjanplhgpcbeaaDoorEventPure
import Derived.Test.YtmjanplhgpcbeaaDoorRefPen
namespace Go.Proofs.YtmjanplhgpcbeaaDoor
open Go Go.RowKit

/-- What lies below the program's first block: the errors' variables, as strconv's contracts ask for them. -/
def ErrsIn (w : World) : Prop := ∀ g : Nat, g = 2 ∨ g = 3 → ∃ ev, w.cell? ⟨g, 0, none⟩ = some ev ∧ (ev = .nilIface ∨ ∃ te pe, ev = .iface te pe)
/-- Bytes, as the library has them. -/
def lvB (l : List (BitVec 8)) : List UInt8 := l.map fun c => UInt8.ofNat c.toNat
theorem Sv_lv (l : List (BitVec 8)) : Sv l = .string ⟨(lvB l).toArray⟩ := by
  unfold Sv
  congr 1
  have : (strOf l).data = (lvB l).toArray := strOf_data l
  cases h : strOf l with
  | mk d =>
    rw [h] at this
    rw [← this]
def numL (l : List (BitVec 8)) : Int := match Lib.atoiAll (lvB l) with | .ok v => v | _ => 0
set_option maxRecDepth 100000 in
theorem enumber_any (w : World) (l : List (BitVec 8)) (hl : l.length ≤ 1000000) (hE : ErrsIn w) : Calls Tryd.prog 57 #[Sv l] w (Below0 w (.int .i64 (numL l))) := by
  have hsz : (⟨(lvB l).toArray⟩ : ByteArray).size ≤ 1000000 := by simpa [ByteArray.size, lvB] using hl
  have hnum : numL l = match Lib.atoiAll (lvB l) with | .ok v => v | _ => 0 := rfl
  cases h : Lib.atoiAll (lvB l) with
  | ok v =>
    have HA := Lib.hid (Tryd.strconv_Atoi_ok ⟨(lvB l).toArray⟩ (by omega) v h w)
    rw [← Sv_lv] at HA
    rw [hnum, h]
    clear h hnum hsz hl
    go_enter Tryd.func57, Tryd.ntmps57
    go_wp2_with (fail)
    refine HA.out.mono ?_
    rintro e w1 ⟨rfl, hw⟩
    have HB : Hid (Below w.heap.size w w1) := by
      rcases hw with rfl | ⟨t, rfl⟩
      · exact Below.refl _ _
      · exact Lib.bytesWorld_below w _ t
    clear hw
    dsimp only
    go_wp2_with (fail)
    go_ret
    exact ⟨rfl, HB.out⟩
  | «syntax» =>
    obtain ⟨ev, h1, h2⟩ := hE 2 (.inl rfl)
    have HA := Lib.hid (Tryd.strconv_Atoi_syntax ⟨(lvB l).toArray⟩ (by omega) h ev w h1 h2)
    rw [← Sv_lv] at HA
    rw [hnum, h]
    clear h hnum hsz hl h1 h2 hE
    go_enter Tryd.func57, Tryd.ntmps57
    go_wp2_with (fail)
    refine HA.out.mono ?_
    rintro e w1 ⟨N, rfl, hN, hrow, hB⟩
    have HB := Lib.hid hB
    clear hN hrow hB
    dsimp only
    go_wp2_with (fail)
    go_ret
    exact ⟨rfl, HB.out⟩
  | range =>
    obtain ⟨ev, h1, h2⟩ := hE 3 (.inr rfl)
    have HA := Lib.hid (Tryd.strconv_Atoi_range ⟨(lvB l).toArray⟩ (by omega) h ev w h1 h2)
    rw [← Sv_lv] at HA
    rw [hnum, h]
    clear h hnum hsz hl h1 h2 hE
    go_enter Tryd.func57, Tryd.ntmps57
    go_wp2_with (fail)
    refine HA.out.mono ?_
    rintro e w1 ⟨N, rfl, hN, hrow, hB⟩
    have HB := Lib.hid hB
    clear hN hrow hB
    dsimp only
    go_wp2_with (fail)
    go_ret
    exact ⟨rfl, HB.out⟩
end Go.Proofs.YtmjanplhgpcbeaaDoor
