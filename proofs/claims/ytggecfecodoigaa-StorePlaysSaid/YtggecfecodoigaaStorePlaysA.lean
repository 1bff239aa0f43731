/-
  StorePlays where there are no blocks, or too many, or so many that their number alone is looked at; one act, whatever its kind.
-/
import Derived.Test.YtggecfecodoigaaStorePlayed0
import Derived.Test.YtggecfecodoigaaStorePlayed1
import Derived.Test.YtggecfecodoigaaStorePlayed2
import Derived.Test.YtggecfecodoigaaStorePlayed3
import Derived.Test.YtggecfecodoigaaStorePlayed4
import Derived.Test.YtggecfecodoigaaStorePlayed5
import Derived.Test.YtggecfecodoigaaStorePlayed6
import Derived.Test.YtggecfecodoigaaStorePlayed7
import Derived.Test.YtggecfecodoigaaStorePlayed8
namespace Go.Proofs.Ytggecfecodoigaa
open Go Go.RowKit

theorem played_any {w w0 : World} {base : Nat} {f : StF} {rf : RfF} {s : StS} (h : Both w base f rf s) (o : OpL) (hg : o.Good w0) (h0 : w0.heap.size ≤ base) (hbase : base ≤ w.heap.size) (hB : Below w0.heap.size w0 w) (hW : s.W.length < 1000) (g ic : Nat) (ims : List (List (List (BitVec 8))))
    (hi0 : 0 < ims.length) (hi1 : ims.length ≤ 1000) (hi2 : ∀ j < ims.length, w.cell? ⟨g, j, none⟩ = some (Sv (flatB (ims.getD j [])))) (hi3 : ∀ l ∈ ims, Blocks l ∧ l.length = s.L.length) :
    Calls Try.prog 23 #[.pointer (some ⟨f.b, 0, none⟩), .pointer (some ⟨rf.b, 0, none⟩), .agg #[.int .i64 o.kind, .int .i64 o.at_, .int .i64 o.n, .slice o.ba o.bs.length o.bc, .slice o.ka o.keep.length o.kc], .slice (some ⟨g, 0, none⟩) ims.length ic] w (PEnd w base f rf s) := by
  rcases ninth_nine o.kind with h9 | h9 | h9 | h9 | h9 | h9 | h9 | h9 | h9
  · exact played0 h o hg h0 hbase hB hW _ h9
  · exact played1 h o hg h0 hbase hB hW _ h9
  · exact played2 h o hg h0 hbase hB hW _ h9
  · exact played3 h o hg h0 hbase hB hW _ h9
  · exact played4 h o hg h0 hbase hB hW _ h9
  · exact played5 h o hg h0 hbase hB hW _ h9
  · exact played6 h o hg h0 hbase hB hW g ic ims hi0 hi1 hi2 hi3 h9
  · exact played7 h o hg h0 hbase hB hW _ h9
  · exact played8 h o hg h0 hbase hB hW _ h9
set_option maxRecDepth 100000 in
set_option maxHeartbeats 1000000 in
theorem plays_no (w : World) (n : Int) (h : n < 1 ∨ 4096 < n) (ov : Value) : Calls Try.prog 3 #[.int .i64 n, ov] w (Says w (.bool true)) := by
  have HN := Lib.hid h
  have hd : (n < 1) ∨ (¬ n < 1 ∧ 4096 < n) := by omega
  clear h
  rcases hd with hd | ⟨hd, hd2⟩
  all_goals
    go_enter Try.func3, Try.ntmps3
    go_wp2_with (fail)
    refine (first_any _).mono ?_
    rintro e w1 ⟨rfl, hB1⟩
    dsimp only
    go_wp2_with (fail)
    refine (snew_no w1 n HN.out).mono ?_
    rintro e w2 ⟨rfl, rfl⟩
    have H2 := Lib.hid hB1
    clear hB1
    dsimp only
    go_wp2_with (fail)
    refine (nil_read w2).mono ?_
    rintro e w3 ⟨rfl, hB⟩
    have H3 := Lib.hid (H2.out.trans (hB.mono H2.out.size))
    clear hB
    dsimp only
    go_wp2_with (fail)
    refine (nil_limit w3).mono ?_
    rintro e w4 ⟨rfl, hB⟩
    have H4 := Lib.hid (H3.out.trans (hB.mono H3.out.size))
    clear hB
    dsimp only
    go_wp2_with (fail)
    refine (nil_crash w4).mono ?_
    rintro e w5 ⟨rfl, hB⟩
    have H5 := Lib.hid (H4.out.trans (hB.mono H4.out.size))
    clear hB
    dsimp only
    go_wp2_with (fail)
    refine (nil_write w5).mono ?_
    rintro e w6 ⟨rfl, hB⟩
    have H6 := Lib.hid (H5.out.trans (hB.mono H5.out.size))
    clear hB
    dsimp only
    go_wp2_with (fail)
    refine (nil_sync w6).mono ?_
    rintro e w7 ⟨rfl, hB⟩
    have H7 := Lib.hid (H6.out.trans (hB.mono H6.out.size))
    clear hB
    dsimp only
    go_wp2_with (fail)
    refine (nil_spend w7).mono ?_
    rintro e w8 ⟨rfl, hB⟩
    have H8 := Lib.hid (H7.out.trans (hB.mono H7.out.size))
    clear hB
    dsimp only
    go_wp2_with (fail)
    refine (nil_len w8).mono ?_
    rintro e w9 ⟨rfl, hB⟩
    have H9 := Lib.hid (H8.out.trans (hB.mono H8.out.size))
    clear hB
    dsimp only
    go_wp2_with (fail)
    refine (nil_waits w9).mono ?_
    rintro e w10 ⟨rfl, hB⟩
    have H10 := Lib.hid (H9.out.trans (hB.mono H9.out.size))
    clear hB
    dsimp only
    go_wp2_with (fail)
    refine (nil_image w10).mono ?_
    rintro e w11 ⟨rfl, hB⟩
    have H11 := Lib.hid (H10.out.trans (hB.mono H10.out.size))
    clear hB
    dsimp only
    go_wp2_with (fail)
    refine (nil_reads w11).mono ?_
    rintro e w12 ⟨rfl, hB⟩
    have H12 := Lib.hid (H11.out.trans (hB.mono H11.out.size))
    clear hB
    dsimp only
    go_wp2_with (fail)
    refine (nil_off w12).mono ?_
    rintro e w13 ⟨rfl, hB⟩
    have H13 := Lib.hid (H12.out.trans (hB.mono H12.out.size))
    clear hB
    dsimp only
    go_wp2_with (fail)
    refine (nil_lay w13).mono ?_
    rintro e w14 ⟨rfl, hB⟩
    have H14 := Lib.hid (H13.out.trans (hB.mono H13.out.size))
    clear hB
    dsimp only
    go_wp2_with (fail)
    refine (nil_load w14).mono ?_
    rintro e w15 ⟨rfl, hB⟩
    have H15 := Lib.hid (H14.out.trans (hB.mono H14.out.size))
    clear hB
    dsimp only
    go_wp2_with (fail)
    go_ret
    exact ⟨rfl, H15.out⟩
set_option maxRecDepth 100000 in
set_option maxHeartbeats 1000000 in
theorem plays_many (w : World) (n : Nat) (h1 : 20 < n) (h2 : n ≤ 4096) (ov : Value) : Calls Try.prog 3 #[.int .i64 (n : Int), ov] w (Says w (.bool true)) := by
  have HN := Lib.hid (And.intro h1 h2)
  have q1 : ¬ (n : Int) < 1 := by omega
  have q2 : ¬ (4096 : Int) < (n : Int) := by omega
  have q3 : (20 : Int) < (n : Int) := by omega
  clear h1 h2
  go_enter Try.func3, Try.ntmps3
  go_wp2_with (fail)
  refine (first_any _).mono ?_
  rintro e w1 ⟨rfl, hB1⟩
  dsimp only
  have H1 := Lib.hid hB1
  clear hB1
  go_wp2_with (fail)
  refine (snew_any w1 n (by have := HN.out; omega) HN.out.2).mono ?_
  rintro e w2 ⟨f0, rfl, hA0, hB0⟩
  have H2 := Lib.hid (And.intro hA0 (H1.out.trans (hB0.mono H1.out.size)))
  clear hA0 hB0
  dsimp only
  go_wp2_with (fail)
  refine (slen_any H2.out.1).mono ?_
  rintro e w3 ⟨rfl, rfl⟩
  rw [show (StS.new n).L.length = n by simp [StS.new]]
  dsimp only
  go_wp2_with (fail)
  go_ret
  exact ⟨rfl, H2.out.2⟩
end Go.Proofs.Ytggecfecodoigaa
