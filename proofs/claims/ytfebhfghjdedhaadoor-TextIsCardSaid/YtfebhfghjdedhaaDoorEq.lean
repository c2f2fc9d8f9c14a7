/-
  What '==' gives of two addresses, and of two pairs of words. No condition.
-/
import Derived.Test.YtfebhfghjdedhaaDoorProg
import Derived.Test.YtfebhfghjdedhaaDoorBv
import Derived.ChangeKeysEq
namespace Go.Proofs.YtfebhfghjdedhaaDoor
open Go.RowKit


/-- Two addresses' parts are alike. -/
def adB (h l : Int) (v : Bool) (h' l' : Int) (v' : Bool) : Bool := h == h' && (l == l' && v == v')
@[simp] theorem adB_self (h l : Int) (v : Bool) : adB h l v h l v = true := by simp [adB]
@[simp] theorem eq_ad (h l h' l' : Int) (v v' : Bool) (w : World) :
    (Op.equalIn 10000 24 (.agg #[.int .u64 h, .int .u64 l, .bool v]) (.agg #[.int .u64 h', .int .u64 l', .bool v'])).run Tryd.prog w = .ok (adB h l v h' l' v') w := by
  rw [show (10000 : Nat) = 9999 + 1 from rfl, run_equalIn_struct w 9999 _ _ _ (by kernel_rfl) Tryd.stoodInHeld24]
  simp [go_sem, adB]
  by_cases h1 : h = h' <;> by_cases h2 : l = l' <;> by_cases h3 : v = v' <;> simp [h1, h2, h3]

@[simp] theorem eq_wd (h l h' l' : Int) (w : World) :
    (Op.equalIn 10000 60 (.agg #[.int .u64 h, .int .u64 l]) (.agg #[.int .u64 h', .int .u64 l'])).run Tryd.prog w = .ok (h == h' && l == l') w := by
  have hs : (Tryd.prog.info? 22).isSome = true := by kernel_rfl
  obtain ⟨i, hi⟩ := Option.isSome_iff_exists.1 hs
  rw [show (10000 : Nat) = 9999 + 1 from rfl, run_equalIn_array w 9999 _ _ Tryd.underlying60 hi]
  simp [Op.eqItems, List.range_succ, show Tryd.prog.cellsOf 22 = 1 from by kernel_rfl, go_sem]
  by_cases h1 : h = h' <;> by_cases h2 : l = l' <;> simp [h1, h2]

end Go.Proofs.YtfebhfghjdedhaaDoor
