/-
  What math/bits.Len64 answers for whatever it is called with: how many bits the number has. Condition: the argument is a uint64.
-/
import Derived.Test.YtgmpdifggaggdaaGreatDoorProg
import Derived.Lib.Strings
import Derived.Lib.Slices
import Derived.Lib.Small
import Derived.Lib.Walk
import Derived.Lib.BitFns
namespace Go.Proofs.YtgmpdifggaggdaaGreatDoor.Fld

theorem len_close (x y : Int) (k : Nat) (hk : k ≤ 56) (h0 : 0 ≤ y) (h1 : y ≤ 255) (e : y.toNat = x.toNat / 2 ^ k) (hp : 2 ^ k ≤ x.toNat) (hx : x.toNat < 2 ^ 64) :
    ((k : Int) + ((Lib.len8 y + 9223372036854775808) % 18446744073709551616 - 9223372036854775808) + 9223372036854775808) % 18446744073709551616 - 9223372036854775808 = (Lib.bitLen x.toNat : Int) := by
  rw [Lib.len8_int y h0 h1, Lib.bitLen_shift k x.toNat hp hx, ← e]
  have := Lib.bitLen_le8 ⟨y.toNat, by omega⟩
  simp only at this
  omega
theorem len_close0 (x : Int) (h0 : 0 ≤ x) (h1 : x < 256) : (Lib.len8 (x % 256) + 9223372036854775808) % 18446744073709551616 - 9223372036854775808 = (Lib.bitLen x.toNat : Int) := by
  rw [Lib.len8_int (x % 256) (by omega) (by omega), show x % 256 = x by omega]

set_option maxHeartbeats 4000000 in
set_option maxRecDepth 100000 in
theorem len64_int (x : Int) (w : World) (h0 : 0 ≤ x) (h1 : x ≤ 18446744073709551615) : Calls Tryz.prog 115 #[.int .u64 x] w fun e w' => e = .returned (.int .i64 (Lib.bitLen x.toNat)) ∧ w = w' := by
  go_enter Tryz.func115, Tryz.ntmps115
  go_wp2
  all_goals (go_ret; refine ⟨congrArg Ending.returned (congrArg (Value.int IntKind.i64) ?_), rfl⟩)
  · exact len_close x _ 56 (by omega) (by omega) (by omega) (by omega) (by omega) (by omega)
  · exact len_close x _ 48 (by omega) (by omega) (by omega) (by omega) (by omega) (by omega)
  · exact len_close x _ 40 (by omega) (by omega) (by omega) (by omega) (by omega) (by omega)
  · exact len_close x _ 32 (by omega) (by omega) (by omega) (by omega) (by omega) (by omega)
  · exact len_close x _ 24 (by omega) (by omega) (by omega) (by omega) (by omega) (by omega)
  · exact len_close x _ 16 (by omega) (by omega) (by omega) (by omega) (by omega) (by omega)
  · exact len_close x _ 8 (by omega) (by omega) (by omega) (by omega) (by omega) (by omega)
  · exact len_close0 x h0 (by omega)
end Go.Proofs.YtgmpdifggaggdaaGreatDoor.Fld
