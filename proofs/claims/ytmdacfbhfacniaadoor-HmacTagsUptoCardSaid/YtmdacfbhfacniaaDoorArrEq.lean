/-
  '==' on two arrays of bytes.
-/
import Derived.Test.YtmdacfbhfacniaaDoorShaPure
namespace Go.Proofs.YtmdacfbhfacniaaDoor
open Go.RowKit

theorem run_forIn_all {P : Program} (w : World) (p : Nat → Bool) (f : Nat → Option Bool × PUnit → Sem (ForInStep (Option Bool × PUnit))) :
    ∀ (l : List Nat), (∀ i ∈ l, (f i (none, ())).run P w = .ok (if p i then .yield (none, ()) else .done (some false, ())) w) →
      (forIn l (none, ()) f).run P w = .ok (if l.all p then (none, ()) else (some false, ())) w
  | [], _ => by simp
  | i :: l, hf => by
    have h0 := hf i (by simp)
    have ih := run_forIn_all w p f l (fun j hj => hf j (by simp [hj]))
    rw [List.forIn_cons, Sem.run_bind, h0]
    by_cases hp : p i = true
    · simp [hp, ih]
    · simp [hp]

theorem run_equalIn_bytes {P : Program} (d T e : Nat) (len : Nat) (hT : P.underlying T = some (.array len e)) (he : P.underlying e = some (.int .u8)) (hz : ∀ w, (sizeOf e).run P w = .ok 1 w) (hg : ∀ w, (isAgg e).run P w = .ok false w)
    (f g : Nat → BitVec 8) (xs ys : Array Value) (hx : ∀ i < len, xs[i]? = some (B (f i))) (hy : ∀ i < len, ys[i]? = some (B (g i))) (w : World) :
    (Op.equalIn (d + 2) T (.agg xs) (.agg ys)).run P w = .ok ((List.range len).all fun i => f i == g i) w := by
  rw [Op.equalIn]
  simp only [Sem.run_bind, run_underlying hT, Result.andThen_ok, hz]
  rw [Std.Legacy.Range.forIn_eq_forIn_range', run_forIn_all w (fun i => f i == g i)]
  · rw [show [:len].size = len by simp [Std.Legacy.Range.size], ← List.range_eq_range']
    cases (List.range len).all fun i => f i == g i <;> simp
  · intro i hi
    have hil : i < len := by
      rw [List.mem_range'] at hi
      obtain ⟨k, hk, rfl⟩ := hi
      simpa [Std.Legacy.Range.size] using hk
    have h1 : (part e xs (i * 1)).run P w = .ok (B (f i)) w := by simp [part, hg, hx i hil]
    have h2 : (part e ys (i * 1)).run P w = .ok (B (g i)) w := by simp [part, hg, hy i hil]
    have h3 : (Op.equalIn (d + 1) e (B (f i)) (B (g i))).run P w = .ok (f i == g i) w := by
      unfold B
      rw [run_equalIn_int w d e .u8 .u8 _ _ he]
      congr 1
      rw [Bool.eq_iff_iff]
      simp [BitVec.toNat_eq]
      omega
    simp only [Sem.run_bind, h1, h2, h3, Result.andThen_ok]
    cases f i == g i <;> simp
end Go.Proofs.YtmdacfbhfacniaaDoor
