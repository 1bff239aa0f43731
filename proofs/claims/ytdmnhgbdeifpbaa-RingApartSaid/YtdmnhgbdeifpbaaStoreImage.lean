/-
  The contract of a store's Image.
-/
import Derived.Test.YtdmnhgbdeifpbaaStoreWaits
namespace Go.Proofs.Ytdmnhgbdeifpbaa
open Go Go.RowKit

theorem zero_block : ∃ cz : Array Value, (∀ w, (zeroValue 66).run Try.prog w = .ok (.agg cz) w) ∧ cz.size = 128 := by
  have h := zero_of_info (P := Try.prog) (t := 66) (v := .agg (List.replicate 128 (Value.int .u8 0)).toArray) (n := 128) (by kernel_rfl)
  exact ⟨_, h.1, by simp⟩
end Go.Proofs.Ytdmnhgbdeifpbaa
