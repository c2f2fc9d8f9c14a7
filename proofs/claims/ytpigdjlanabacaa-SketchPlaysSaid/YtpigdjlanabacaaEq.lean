/-
  What '==' gives of two addresses, and of two pairs of words. No condition.
-/
import Derived.Test.YtpigdjlanabacaaProg
import Derived.Test.YtpigdjlanabacaaBv
import Derived.ChangeKeysEq
namespace Go.Proofs.Ytpigdjlanabacaa
open Go.RowKit


/-- Two addresses' parts are alike. -/
def adB (h l : Int) (v : Bool) (h' l' : Int) (v' : Bool) : Bool := h == h' && (l == l' && v == v')
@[simp] theorem adB_self (h l : Int) (v : Bool) : adB h l v h l v = true := by simp [adB]
@[simp] theorem eq_ad (h l h' l' : Int) (v v' : Bool) (w : World) :
    (Op.equalIn 10000 25 (.agg #[.int .u64 h, .int .u64 l, .bool v]) (.agg #[.int .u64 h', .int .u64 l', .bool v'])).run Try.prog w = .ok (adB h l v h' l' v') w := by
  rw [show (10000 : Nat) = 9999 + 1 from rfl, run_equalIn_struct w 9999 _ _ _ (by kernel_rfl) Try.stoodInHeld25]
  simp [go_sem, adB]
  by_cases h1 : h = h' <;> by_cases h2 : l = l' <;> by_cases h3 : v = v' <;> simp [h1, h2, h3]

@[simp] theorem eq_wd (h l h' l' : Int) (w : World) :
    (Op.equalIn 10000 79 (.agg #[.int .u64 h, .int .u64 l]) (.agg #[.int .u64 h', .int .u64 l'])).run Try.prog w = .ok (h == h' && l == l') w := by
  have hs : (Try.prog.info? 23).isSome = true := by kernel_rfl
  obtain ⟨i, hi⟩ := Option.isSome_iff_exists.1 hs
  rw [show (10000 : Nat) = 9999 + 1 from rfl, run_equalIn_array w 9999 _ _ Try.underlying79 hi]
  simp [Op.eqItems, List.range_succ, show Try.prog.cellsOf 23 = 1 from by kernel_rfl, go_sem]
  by_cases h1 : h = h' <;> by_cases h2 : l = l' <;> simp [h1, h2]

end Go.Proofs.Ytpigdjlanabacaa
