/-
  What need, getHead and getDigits of package wire return. Condition: the bytes lie where the argument says.
-/
import Derived.Test.YtpigdjlanabacaaVa
import Derived.Test.YtpigdjlanabacaaPg
import Derived.Deep.RegionHeld3
namespace Go.Proofs.Ytpigdjlanabacaa
open Go.RowKit

theorem need_le (v : Bool) (n : Int) (h0 : 0 ≤ n) (h1 : n ≤ wid v) : need n ≤ nb v ∧ ((need n : Nat) : Int) = (n + 7) / 8 := by
  unfold need
  cases v <;> simp [wid, nb] at * <;> omega
theorem need_any (n : Int) (h0 : 0 ≤ n) (h1 : n ≤ 128) (w : World) :
    Calls Try.prog 39 #[.int .i64 n] w fun e w' => e = .returned (.int .i64 (need n)) ∧ w = w' := by
  have hn : ((need n : Nat) : Int) = (n + 8 - 1) / 8 := by unfold need; omega
  have Hn := Lib.hid hn
  clear hn
  go_enter Try.func39, Try.ntmps39
  go_wp2
  go_ret
  exact ⟨ret_int Hn.out.symm, rfl⟩

end Go.Proofs.Ytpigdjlanabacaa
