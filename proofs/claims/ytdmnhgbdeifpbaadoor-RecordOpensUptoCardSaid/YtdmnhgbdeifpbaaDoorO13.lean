/-
  Part 13 of 42 of what the proof leans on.
-/
import Derived.Test.YtdmnhgbdeifpbaaDoorRows
import Derived.Test.YtdmnhgbdeifpbaaDoorO2
import Derived.WalkKit
import Derived.WalkSpells
import Derived.Deep.Draws
import Derived.Deep.QuietTactic
import Derived.BigQuiet
namespace Go.Proofs.YtdmnhgbdeifpbaaDoor
open Go.RowKit
theorem run_forIn_all {P : Program} (w : World) (p : Nat → Bool) (f : Nat → Option Bool × PUnit → Sem (ForInStep (Option Bool × PUnit))) :
    ∀ (l : List Nat), (∀ i ∈ l, (f i (none, ())).run P w = .ok (if p i then .yield (none, ()) else .done (some false, ())) w) →
      (forIn l (none, ()) f).run P w = .ok (if l.all p then (none, ()) else (some false, ())) w
  | [], _ => by simp
  | i :: l, hf => by
    have h0 := hf i (by simp)
    have ih := run_forIn_all w p f l (fun j hj => hf j (by simp [hj]))
    rw [List.forIn_cons, Sem.run_bind, h0]
    by_cases hp : p i = true
    · simp [hp, ih]
    · simp [hp]
theorem run_equalIn_bytes {P : Program} (d T e : Nat) (len : Nat) (hT : P.underlying T = some (.array len e)) (he : P.underlying e = some (.int .u8)) (hz : ∀ w, (sizeOf e).run P w = .ok 1 w) (hg : ∀ w, (isAgg e).run P w = .ok false w)
    (f g : Nat → BitVec 8) (xs ys : Array Value) (hx : ∀ i < len, xs[i]? = some (B (f i))) (hy : ∀ i < len, ys[i]? = some (B (g i))) (w : World) :
    (Op.equalIn (d + 2) T (.agg xs) (.agg ys)).run P w = .ok ((List.range len).all fun i => f i == g i) w := by
  rw [Op.equalIn]; simp only [Sem.run_bind, run_underlying hT, Result.andThen_ok, hz]; rw [Std.Legacy.Range.forIn_eq_forIn_range', run_forIn_all w (fun i => f i == g i)]
  · rw [show [:len].size = len by simp [Std.Legacy.Range.size], ← List.range_eq_range']
    cases (List.range len).all fun i => f i == g i <;> simp
  · intro i hi
    have hil : i < len := by
      rw [List.mem_range'] at hi; obtain ⟨k, hk, rfl⟩ := hi
      simpa [Std.Legacy.Range.size] using hk
    have h1 : (part e xs (i * 1)).run P w = .ok (B (f i)) w := by simp [part, hg, hx i hil]
    have h2 : (part e ys (i * 1)).run P w = .ok (B (g i)) w := by simp [part, hg, hy i hil]
    have h3 : (Op.equalIn (d + 1) e (B (f i)) (B (g i))).run P w = .ok (f i == g i) w := by
      unfold B; rw [run_equalIn_int w d e .u8 .u8 _ _ he]
      congr 1
      rw [Bool.eq_iff_iff]; simp [BitVec.toNat_eq]; omega
    simp only [Sem.run_bind, h1, h2, h3, Result.andThen_ok]
    cases f i == g i <;> simp
end Go.Proofs.YtdmnhgbdeifpbaaDoor
namespace Go.Proofs.YtdmnhgbdeifpbaaDoor
open Go.RowKit
def be4 (a b c d : BitVec 8) : BitVec 32 := a.setWidth 32 <<< 24 ||| b.setWidth 32 <<< 16 ||| c.setWidth 32 <<< 8 ||| d.setWidth 32
def sp (x : BitVec 32) (i j k : Nat) : BitVec 32 := rotr x i ^^^ rotr x j ^^^ x >>> k
def tu (x : BitVec 32) (i j k : Nat) : BitVec 32 := rotr x i ^^^ rotr x j ^^^ rotr x k
def nx (L : List (BitVec 32)) : BitVec 32 := sp (L.getD 1 0) 17 19 10 + L.getD 6 0 + sp (L.getD 14 0) 7 18 3 + L.getD 15 0
def sl (f : Nat → BitVec 8) : Nat → List (BitVec 32)
  | 0 => []
  | t + 1 => (if t < 16 then be4 (f (4 * t)) (f (4 * t + 1)) (f (4 * t + 2)) (f (4 * t + 3)) else nx (sl f t)) :: sl f t
def sched (f : Nat → BitVec 8) (t : Nat) : BitVec 32 := (sl f (t + 1)).headD 0
theorem sl_getD (f : Nat → BitVec 8) : ∀ t i, i < t → (sl f t).getD i 0 = sched f (t - 1 - i)
  | 0, i, h => by omega
  | t + 1, 0, _ => by simp [sched, sl]
  | t + 1, i + 1, h => by
    have := sl_getD f t i (by omega)
    rw [show t + 1 - 1 - (i + 1) = t - 1 - i by omega, ← this]
    simp [sl]
theorem sched_lo (f : Nat → BitVec 8) (t : Nat) (h : t < 16) : sched f t = be4 (f (4 * t)) (f (4 * t + 1)) (f (4 * t + 2)) (f (4 * t + 3)) := by simp [sched, sl, h]
theorem sched_hi (f : Nat → BitVec 8) (t : Nat) (h : 16 ≤ t) : sched f t = sp (sched f (t - 2)) 17 19 10 + sched f (t - 7) + sp (sched f (t - 15)) 7 18 3 + sched f (t - 16) := by
  have h1 := sl_getD f t 1 (by omega)
  have h6 := sl_getD f t 6 (by omega)
  have h14 := sl_getD f t 14 (by omega)
  have h15 := sl_getD f t 15 (by omega)
  show (if t < 16 then _ else nx (sl f t)) = _
  rw [if_neg (by omega), nx, h1, h6, h14, h15]
  rw [show t - 1 - 1 = t - 2 by omega, show t - 1 - 6 = t - 7 by omega, show t - 1 - 14 = t - 15 by omega, show t - 1 - 15 = t - 16 by omega]
def kTable : List (BitVec 32) := [
  0x428a2f98, 0x71374491, 0xb5c0fbcf, 0xe9b5dba5, 0x3956c25b, 0x59f111f1, 0x923f82a4, 0xab1c5ed5,
  0xd807aa98, 0x12835b01, 0x243185be, 0x550c7dc3, 0x72be5d74, 0x80deb1fe, 0x9bdc06a7, 0xc19bf174,
  0xe49b69c1, 0xefbe4786, 0x0fc19dc6, 0x240ca1cc, 0x2de92c6f, 0x4a7484aa, 0x5cb0a9dc, 0x76f988da,
  0x983e5152, 0xa831c66d, 0xb00327c8, 0xbf597fc7, 0xc6e00bf3, 0xd5a79147, 0x06ca6351, 0x14292967,
  0x27b70a85, 0x2e1b2138, 0x4d2c6dfc, 0x53380d13, 0x650a7354, 0x766a0abb, 0x81c2c92e, 0x92722c85,
  0xa2bfe8a1, 0xa81a664b, 0xc24b8b70, 0xc76c51a3, 0xd192e819, 0xd6990624, 0xf40e3585, 0x106aa070,
  0x19a4c116, 0x1e376c08, 0x2748774c, 0x34b0bcb5, 0x391c0cb3, 0x4ed8aa4a, 0x5b9cca4f, 0x682e6ff3,
  0x748f82ee, 0x78a5636f, 0x84c87814, 0x8cc70208, 0x90befffa, 0xa4506ceb, 0xbef9a3f7, 0xc67178f2]
def kAt (t : Nat) : BitVec 32 := kTable.getD t 0
structure St where
  a : BitVec 32
  b : BitVec 32
  c : BitVec 32
  d : BitVec 32
  e : BitVec 32
  f : BitVec 32
  g : BitVec 32
  h : BitVec 32
def St.ws (s : St) : List (BitVec 32) := [s.a, s.b, s.c, s.d, s.e, s.f, s.g, s.h]
def St.at (s : St) (i : Nat) : BitVec 32 := s.ws.getD i 0
def firstSt : St := ⟨0x6a09e667, 0xbb67ae85, 0x3c6ef372, 0xa54ff53a, 0x510e527f, 0x9b05688c, 0x1f83d9ab, 0x5be0cd19⟩
def rT1 (s : St) (k w : BitVec 32) : BitVec 32 := s.h + tu s.e 6 11 25 + ((s.e &&& s.f) ^^^ (~~~s.e &&& s.g)) + k + w
def rT2 (s : St) : BitVec 32 := tu s.a 2 13 22 + ((s.a &&& s.b) ^^^ (s.a &&& s.c) ^^^ (s.b &&& s.c))
def rstep (s : St) (k w : BitVec 32) : St := ⟨rT1 s k w + rT2 s, s.a, s.b, s.c, s.d + rT1 s k w, s.e, s.f, s.g⟩
def rnds (f : Nat → BitVec 8) (s : St) : Nat → St
  | 0 => s
  | t + 1 => rstep (rnds f s t) (kAt t) (sched f t)
def St.add (s r : St) : St := ⟨s.a + r.a, s.b + r.b, s.c + r.c, s.d + r.d, s.e + r.e, s.f + r.f, s.g + r.g, s.h + r.h⟩
def compress (f : Nat → BitVec 8) (s : St) : St := s.add (rnds f s 64)
theorem at_add (s r : St) (i : Nat) (h : i < 8) : (s.add r).at i = s.at i + r.at i := by
  match i, h with
  | 0, _ => rfl
  | 1, _ => rfl
  | 2, _ => rfl
  | 3, _ => rfl
  | 4, _ => rfl
  | 5, _ => rfl
  | 6, _ => rfl
  | 7, _ => rfl
theorem St.cell (r : St) (i : Nat) (h : i < 8) : (#[W r.a, W r.b, W r.c, W r.d, W r.e, W r.f, W r.g, W r.h] : Array Value)[i]? = some (W (r.at i)) := by
  match i, h with
  | 0, _ => rfl
  | 1, _ => rfl
  | 2, _ => rfl
  | 3, _ => rfl
  | 4, _ => rfl
  | 5, _ => rfl
  | 6, _ => rfl
  | 7, _ => rfl
def byteAt (s : St) (i : Nat) : BitVec 8 := (s.at (i / 4) >>> (24 - 8 * (i % 4))).setWidth 8
def Spell (s : St) : Array Value := Array.ofFn (n := 32) fun i => B (byteAt s i)
def gap (n : Nat) : Nat := (119 - n % 64) % 64 + 1
def lenByte (n i : Nat) : BitVec 8 := BitVec.ofNat 8 (8 * n / 2 ^ (56 - 8 * i))
def pad (n : Nat) : List (BitVec 8) := 0x80 :: (List.replicate (gap n - 1) 0 ++ (List.range 8).map (lenByte n))
theorem pad_length (n : Nat) : (pad n).length = gap n + 8 := by
  have : 0 < gap n := by simp [gap]
  simp [pad]; omega
theorem gap_le (n : Nat) : gap n ≤ 64 ∧ 0 < gap n := by
  unfold gap; omega
end Go.Proofs.YtdmnhgbdeifpbaaDoor
namespace Go.Proofs.YtdmnhgbdeifpbaaDoor
open Go.RowKit
set_option maxHeartbeats 400000 in
theorem rot_any (x : BitVec 32) (n : Nat) (h0 : 0 < n) (h1 : n < 32) (w : World) :
    Calls Tryd.prog 102 #[W x, .int .i64 (-(n : Int))] w fun e w' => e = .returned (W (rotr x n)) ∧ w = w' := by
  have hb : bits .and .u64 (IntKind.u64.wrap (-(n : Int))) 31 = ((32 - n : Nat) : Int) := u64_neg ⟨n, h1⟩ (by simp; omega)
  obtain ⟨m, hm⟩ : ∃ m, m = 32 - n := ⟨_, rfl⟩
  have hs := u64_sub m (by omega)
  have e : 32 - m = n := by omega
  rw [e] at hs
  have s1 : ∀ w, (binOp .shl 105 (W x) (.int .u64 (m : Int))).run Tryd.prog w = .ok (W (x <<< m)) w := fun w => run_shl_W _ _ x w .u64 m (by omega)
  have s2 : ∀ w, (binOp .shr 105 (W x) (.int .u64 (n : Int))).run Tryd.prog w = .ok (W (x >>> n)) w := fun w => run_shr_W _ _ x w .u64 n (by omega)
  rw [← hm] at hb
  have HM : Hid (rotr x n = x <<< m ||| x >>> n) := by
    show rotr x n = _
    rw [rotr, BitVec.or_comm, hm]
  clear hm e
  go_enter Tryd.func102, Tryd.ntmps102
  go_wp2
  go_ret
  exact ⟨by rw [HM.out]; rfl, rfl⟩
set_option maxHeartbeats 400000 in
theorem turns_any (x : BitVec 32) (i j k : Nat) (hi : 0 < i ∧ i < 32) (hj : 0 < j ∧ j < 32) (hk : 0 < k ∧ k < 32) (w : World) :
    Calls Tryd.prog 97 #[W x, .int .i64 i, .int .i64 j, .int .i64 k] w fun e w' => e = .returned (W (rotr x i ^^^ rotr x j ^^^ rotr x k)) ∧ w = w' := by
  have n1 : IntKind.i64.wrap (-(i : Int)) = -(i : Int) := IntWalk.i64_in _ (by omega)
  have n2 : IntKind.i64.wrap (-(j : Int)) = -(j : Int) := IntWalk.i64_in _ (by omega)
  have n3 : IntKind.i64.wrap (-(k : Int)) = -(k : Int) := IntWalk.i64_in _ (by omega)
  go_enter Tryd.func97, Tryd.ntmps97
  go_wp2_with (go_at_call 102; refine (rot_any _ _ (by omega) (by omega) _).mono ?_; rintro e w' ⟨rfl, rfl⟩)
  go_ret; exact ⟨rfl, rfl⟩
theorem rot_q (x : BitVec 32) (n : Nat) (h0 : 0 < n) (h1 : n < 32) (w : World) :
    Calls Tryd.prog 102 #[W x, .int .i64 (-(n : Int))] w fun e w' => e = .returned (W (rotr x n)) ∧ w' = w :=
  (rot_any x n h0 h1 w).mono fun _ _ h => ⟨h.1, h.2.symm⟩
theorem turns_q (x : BitVec 32) (i j k : Nat) (hi : 0 < i ∧ i < 32) (hj : 0 < j ∧ j < 32) (hk : 0 < k ∧ k < 32) (w : World) :
    Calls Tryd.prog 97 #[W x, .int .i64 i, .int .i64 j, .int .i64 k] w fun e w' => e = .returned (W (rotr x i ^^^ rotr x j ^^^ rotr x k)) ∧ w' = w :=
  (turns_any x i j k hi hj hk w).mono fun _ _ h => ⟨h.1, h.2.symm⟩
set_option maxHeartbeats 400000 in
theorem spread_any (x : BitVec 32) (i j k : Nat) (hi : 0 < i ∧ i < 32) (hj : 0 < j ∧ j < 32) (hk : 0 < k ∧ k < 32) (w : World) :
    Calls Tryd.prog 101 #[W x, .int .i64 i, .int .i64 j, .int .i64 k] w fun e w' => e = .returned (W (rotr x i ^^^ rotr x j ^^^ x >>> k)) ∧ ∃ n, w' = w.drewN n := by
  have n1 : IntKind.i64.wrap (-(i : Int)) = -(i : Int) := IntWalk.i64_in _ (by omega)
  have n2 : IntKind.i64.wrap (-(j : Int)) = -(j : Int) := IntWalk.i64_in _ (by omega)
  have s1 : ∀ w, (binOp .shr 105 (W x) (.int .i64 (k : Int))).run Tryd.prog w = .ok (W (x >>> k)) w := fun w => run_shr_W _ _ x w .i64 k (by omega)
  go_enter Tryd.func101, Tryd.ntmps101
  go_wp2_with fail
  go_quiet ((go_at_call 102; exact Calls.quiet_of_same (rot_q _ _ (by omega) (by omega) _)))
  go_wp2_with fail; go_ret; exact ⟨rfl, nq, rfl⟩
theorem spread1 (x : BitVec 32) (w : World) : Calls Tryd.prog 101 #[W x, .int .i64 17, .int .i64 19, .int .i64 10] w fun e w' => e = .returned (W (sp x 17 19 10)) ∧ ∃ n, w' = w.drewN n :=
  spread_any x 17 19 10 (by omega) (by omega) (by omega) w
theorem spread0 (x : BitVec 32) (w : World) : Calls Tryd.prog 101 #[W x, .int .i64 7, .int .i64 18, .int .i64 3] w fun e w' => e = .returned (W (sp x 7 18 3)) ∧ ∃ n, w' = w.drewN n :=
  spread_any x 7 18 3 (by omega) (by omega) (by omega) w
theorem turns1 (x : BitVec 32) (w : World) : Calls Tryd.prog 97 #[W x, .int .i64 6, .int .i64 11, .int .i64 25] w fun e w' => e = .returned (W (tu x 6 11 25)) ∧ w' = w :=
  turns_q x 6 11 25 (by omega) (by omega) (by omega) w
theorem turns0 (x : BitVec 32) (w : World) : Calls Tryd.prog 97 #[W x, .int .i64 2, .int .i64 13, .int .i64 22] w fun e w' => e = .returned (W (tu x 2 13 22)) ∧ w' = w :=
  turns_q x 2 13 22 (by omega) (by omega) (by omega) w
end Go.Proofs.YtdmnhgbdeifpbaaDoor
