/-
  What kedgeref03.number and kedgeref03.longest return. Conditions: what they say of their arguments.
-/
import Derived.Test.YtfebhfghjdedhaaDoorShelf
import Derived.Test.YtfebhfghjdedhaaDoorRefC
import Derived.Lib.SmallJoins
import Derived.Lib.AppendIntMem
import Derived.Test.YtfebhfghjdedhaaDoorRowP
import Derived.Test.YtfebhfghjdedhaaDoorCards
import Derived.Test.YtfebhfghjdedhaaDoorTie
import Derived.Deep.DeepHandedRow
import Derived.Lib.LaidTab
import Derived.LaidMore
import Derived.Lay
import Derived.Shelf.Vars
import Derived.SevenTiedAt
import Derived.Stop.Joined
import Derived.Laws.IdiomStrings
import Derived.Deep.OwnRows
import Derived.Lib.OthersKept
import Derived.Laws.RangeAny
import Derived.Deep.Onto
import Derived.Test.YtfebhfghjdedhaaDoorReg
import Derived.Test.YtfebhfghjdedhaaDoorWh
import Derived.Test.YtfebhfghjdedhaaDoorPg
import Derived.Test.YtfebhfghjdedhaaDoorPbx
import Derived.Deep.AppendSrc
import Derived.Lib.AppendStr
import Derived.Lib.AppendZerosOnto
import Derived.Test.YtfebhfghjdedhaaDoorMathF
namespace Go.Proofs.YtfebhfghjdedhaaDoor
open Go.RowKit
set_option maxRecDepth 100000

/-- What the library's package-level variables hold, as far as it is read. -/
structure Env (w : World) : Prop where
  max : ∃ m : Int, w.cell? ⟨0, 0, none⟩ = some (.int .i64 m)
  pow : Lib.TabIs Tryd.prog w "internal/strconv.uint64pow10" .u64 Lib.pow10Tab
  tz : w.cell? ⟨3, 15, none⟩ = some (.int .u8 4)
  big : 6 ≤ w.heap.size
theorem Env.below {w w' : World} {B : Nat} (h : Env w) (hb : Below B w w') (hB : w.heap.size ≤ B) : Env w' := by
  obtain ⟨⟨m, hm⟩, hp, ht, hz⟩ := h
  have hs := hb.size
  refine ⟨⟨m, ?_⟩, Joins.tab_stays (g := 1) (by kernel_rfl) hp hb hB, ?_, by omega⟩
  · exact (hb.cell (p := ⟨0, 0, none⟩) (by simp; omega)).trans hm
  · exact (hb.cell (p := ⟨3, 15, none⟩) (by simp; omega)).trans ht
theorem Env.go {w w' : World} (h : Env w) (hb : Below w.heap.size w w') : Env w' := h.below hb (Nat.le_refl _)

theorem cut_any (s sep : ByteArray) (w : World) (he : Env w) (hs : s.size < 4294967281) :
    Calls Tryd.prog 19 #[.string s, .string sep] w fun e w' => e = .returned (.tuple #[.string ⟨(Lib.cut s.data.toList sep.data.toList).1.toArray⟩, .string ⟨(Lib.cut s.data.toList sep.data.toList).2.1.toArray⟩, .bool (Lib.cut s.data.toList sep.data.toList).2.2]) ∧ Below w.heap.size w w' := by
  obtain ⟨m, hm⟩ := he.max
  refine (Tryd.strings_Cut s sep m w hs hm).mono fun e w' ⟨he, n, hw⟩ => ⟨he, ?_⟩
  rw [hw]
  exact below_drewN (Below.refl _ _) _

theorem itoa_any (n : Int) (h0 : -9223372036854775808 ≤ n) (h1 : n ≤ 9223372036854775807) (w : World) (he : Env w) :
    Calls Tryd.prog 33 #[.int .i64 n] w fun e w' => e = .returned (.string ⟨(Lib.itoa n).toArray⟩) ∧ Below w.heap.size w w' := by
  refine (Tryd.strconv_Itoa n h0 h1 w he.pow).mono fun e w' ⟨he, k, os, hw⟩ => ⟨he, ?_⟩
  rw [hw]
  exact Lib.below_grow _ w (Nat.le_refl _) k os

end Go.Proofs.YtfebhfghjdedhaaDoor

namespace Go.Proofs.YtfebhfghjdedhaaDoor
open Go.ChangeShapes Go.WideShapes Go.ChangeAt Go.RowKit
set_option maxRecDepth 100000

theorem tabIs_of_vars {P : Program} {W : World} {name : String} {k : IntKind} {zs : List Int} {rest : List (String × DataW Unit)} {ps : List MemPlace} {g : Nat} {t e : TypeId} {n : Nat}
    (hg : P.globalNamed name = some g) (hty : (P.globals[g]?).map (·.type) = some t) (ht : P.underlying t = some (.array n e)) (he : P.underlying e = some (.int k)) (hce : P.cellsOf e = 1) (hct : P.cellsOf t = n)
    (h : DataW.LaidVars P W ((name, Lib.tabData k zs) :: rest) ps) : Lib.TabIs P W name k zs ∧ ∃ qs, DataW.LaidVars P W rest qs := by
  obtain ⟨g', t', cs, fuel, p, q, hg', ht', hvar, hd, hr, _⟩ := h
  obtain rfl := Option.some.inj (hg.symm.trans hg')
  obtain rfl := Option.some.inj (hty.symm.trans ht')
  refine ⟨?_, q, hr⟩
  unfold Lib.TabIs
  rw [hvar, ← Lib.cells_of_tab ht he hce hct hd]

def tab32 : List Int := [0, 1, 28, 2, 29, 14, 24, 3, 30, 22, 20, 15, 25, 17, 4, 8, 31, 27, 13, 23, 21, 19, 16, 7, 26, 12, 18, 6, 11, 5, 10, 9]
def tab64 : List Int := [0, 1, 56, 2, 57, 49, 28, 3, 61, 58, 42, 50, 38, 29, 17, 4, 62, 47, 59, 36, 45, 43, 51, 22, 53, 39, 33, 30, 24, 18, 12, 5, 63, 55, 48, 27, 60, 41, 37, 16, 46, 35, 44, 21, 52, 32, 23, 11, 54, 26, 40, 15, 34, 20, 31, 10, 25, 14, 19, 9, 13, 8, 7, 6]
theorem tab32_eq : (Rows.laid_math_bits_deBruijn32tab : DataW Unit) = Lib.tabData .u8 tab32 := rfl
theorem tab64_eq : (Rows.laid_math_bits_deBruijn64tab : DataW Unit) = Lib.tabData .u8 tab64 := rfl
theorem pow10_eq : (Rows.laid_internal_strconv_uint64pow10 : DataW Unit) = Lib.tabData .u64 Lib.pow10Tab := by kernel_rfl

theorem env_of {W : World} (h : laidMetH Tryd.prog Rows.textIsRow.laid W) (hs : W.ShapedOpen Tryd.prog) : Env W := by
  rw [MakeChecks.laidMetH_plain _ _ _ (by kernel_rfl)] at h
  obtain ⟨ps, hv, _⟩ := h
  have hv' : DataW.LaidVars Tryd.prog W (("math/bits.deBruijn32tab", Lib.tabData .u8 tab32) :: ("math/bits.deBruijn64tab", Lib.tabData .u8 tab64) :: ("internal/strconv.uint64pow10", Lib.tabData .u64 Lib.pow10Tab) :: [("unicode/utf8.acceptRanges", Rows.laid_unicode_utf8_acceptRanges), ("unicode/utf8.first", Rows.laid_unicode_utf8_first)]) ps := by
    rw [← tab32_eq, ← tab64_eq, ← pow10_eq]
    exact hv
  obtain ⟨_, q1, v1⟩ := tabIs_of_vars (g := 2) (t := 112) (e := 5) (n := 32) (by kernel_rfl) (by kernel_rfl) Tryd.underlying112 Tryd.underlying5 (by kernel_rfl) (by kernel_rfl) hv'
  obtain ⟨t2, q2, v2⟩ := tabIs_of_vars (g := 3) (t := 113) (e := 5) (n := 64) (by kernel_rfl) (by kernel_rfl) Tryd.underlying113 Tryd.underlying5 (by kernel_rfl) (by kernel_rfl) v1
  obtain ⟨t3, q3, v3⟩ := tabIs_of_vars (g := 1) (t := 104) (e := 22) (n := 20) (by kernel_rfl) (by kernel_rfl) Tryd.underlying104 Tryd.underlying22 (by kernel_rfl) (by kernel_rfl) v2
  have hb : 6 ≤ W.heap.size := by
    obtain ⟨_, _, cs, _, _, _, _, _, hvar, _⟩ := v3
    unfold World.var? at hvar
    rw [show Tryd.prog.globalNamed "unicode/utf8.acceptRanges" = some 5 by kernel_rfl, Option.bind_some] at hvar
    cases hh : W.heap[(5 : Nat)]? with
    | none => rw [hh] at hvar; cases hvar
    | some o => exact (Array.getElem?_eq_some_iff.1 hh).1
  refine ⟨?_, t3, ?_, hb⟩
  · exact cell_of_shapedOpen_int (g := 0) (t := 3) (zero := #[.int .i64 0]) hs (of_decide_eq_true (by kernel_rfl)) (by kernel_rfl) rfl (by kernel_rfl) (by kernel_rfl) Tryd.underlying3
  · exact t2.cell (g := 3) (by kernel_rfl) 15 (by decide)

end Go.Proofs.YtfebhfghjdedhaaDoor

namespace Go.Proofs.YtfebhfghjdedhaaDoor
open Go.RowKit
set_option maxRecDepth 100000

/-- A digit of sixteen, as it is written. -/
def hx (d : Nat) : Nat := if d < 10 then 48 + d else 87 + d
def hexn (u : Nat) : Nat := if u < 16 then 1 else if u < 256 then 2 else if u < 4096 then 3 else 4
def hexL (u : Nat) : List UInt8 := (List.range (hexn u)).map fun j => UInt8.ofNat (hx (u / 16 ^ (hexn u - 1 - j) % 16))
theorem hexn_bd (u : Nat) : 1 ≤ hexn u ∧ hexn u ≤ 4 := by unfold hexn; split <;> (try split) <;> (try split) <;> omega
theorem hx_lt (d : Nat) (h : d < 16) : hx d < 128 := by unfold hx; split <;> omega
theorem hexL_len (u : Nat) : (hexL u).length = hexn u := by simp [hexL]
theorem hexL_at (u j : Nat) (h : j < (hexL u).length) : ((hexL u)[j].toNat : Int) = (hx (u / 16 ^ (hexn u - 1 - j) % 16) : Nat) := by
  have h1 := hx_lt (u / 16 ^ (hexn u - 1 - j) % 16) (Nat.mod_lt _ (by omega))
  have h2 : (hexL u)[j]? = some (UInt8.ofNat (hx (u / 16 ^ (hexn u - 1 - j) % 16))) := by
    have hj : j < hexn u := by rw [hexL_len] at h; exact h
    unfold hexL
    simp [hj]
  rw [List.getElem?_eq_getElem h] at h2
  rw [Option.some.inj h2, UInt8.toNat_ofNat']
  omega

theorem tz64_16 (w : World) (h : w.cell? ⟨3, 15, none⟩ = some (.int .u8 4)) :
    Calls Tryd.prog 96 #[.int .u64 16] w fun e w' => e = .returned (.int .i64 4) ∧ w' = w := by
  have q1 : IntKind.u64.wrap (-16) = 18446744073709551600 := by decide
  have q2 : bits .and .u64 16 18446744073709551600 = 16 := by decide
  have q3 : IntKind.u64.wrap 4573923408821661840 = 4573923408821661840 := by decide
  go_enter Tryd.func96, Tryd.ntmps96
  go_wp2
  go_ret
  exact ⟨rfl, rfl⟩
theorem tz_16 (w : World) (h : w.cell? ⟨3, 15, none⟩ = some (.int .u8 4)) :
    Calls Tryd.prog 91 #[.int .u64 16] w fun e w' => e = .returned (.int .i64 4) ∧ w' = w := by
  go_enter Tryd.func91, Tryd.ntmps91
  go_wp2_with (go_at_call 96; refine (tz64_16 _ h).mono ?_; rintro e w' ⟨rfl, rfl⟩)
  go_ret
  exact ⟨rfl, rfl⟩
theorem pow2_16 (w : World) :
    Calls Tryd.prog 90 #[.int .i64 16] w fun e w' => e = .returned (.bool true) ∧ w' = w := by
  go_enter Tryd.func90, Tryd.ntmps90
  go_wp2
  go_ret
  exact ⟨rfl, rfl⟩
def digits36 : ByteArray := ⟨#[48, 49, 50, 51, 52, 53, 54, 55, 56, 57, 97, 98, 99, 100, 101, 102, 103, 104, 105, 106, 107, 108, 109, 110, 111, 112, 113, 114, 115, 116, 117, 118, 119, 120, 121, 122]⟩
theorem idx_hex (d : Nat) (h : d < 16) (w : World) : (Instr.index 9 (.string digits36) (.int .u64 d)).run Tryd.prog w = .ok (.int .u8 (hx d)) w := by
  have : d = 0 ∨ d = 1 ∨ d = 2 ∨ d = 3 ∨ d = 4 ∨ d = 5 ∨ d = 6 ∨ d = 7 ∨ d = 8 ∨ d = 9 ∨ d = 10 ∨ d = 11 ∨ d = 12 ∨ d = 13 ∨ d = 14 ∨ d = 15 := by omega
  rcases this with rfl | rfl | rfl | rfl | rfl | rfl | rfl | rfl | rfl | rfl | rfl | rfl | rfl | rfl | rfl | rfl <;> rfl
theorem and15 (x : Nat) (h : x < 65536) : bits .and .u64 (x : Int) 15 = ((x % 16 : Nat) : Int) := by
  have e1 : (x : Int) = u (BitVec.ofNat 64 x) := by
    unfold u
    rw [BitVec.toNat_ofNat]
    omega
  have e2 : (15 : Int) = u 15#64 := rfl
  rw [e1, e2, u_and]
  unfold u
  rw [BitVec.toNat_and, BitVec.toNat_ofNat, Nat.mod_eq_of_lt (by omega)]
  have := Nat.and_two_pow_sub_one_eq_mod x 4
  simp at this ⊢
  omega

theorem pow16n (k : Nat) : 16 ^ (k + 1) = 16 ^ k * 16 := rfl
theorem hexn_more (u k : Nat) (hu : u < 65536) (h : 16 ≤ u / 16 ^ k) (hk : k ≤ 4) : k + 1 < hexn u := by
  have hk' : k = 0 ∨ k = 1 ∨ k = 2 ∨ k = 3 ∨ k = 4 := by omega
  unfold hexn
  rcases hk' with rfl | rfl | rfl | rfl | rfl <;> simp at h <;> split <;> (try split) <;> (try split) <;> omega
theorem hexn_end (u k : Nat) (hu : u < 65536) (h : u / 16 ^ k < 16) (hk : k < hexn u) : hexn u = k + 1 := by
  have hk' : k = 0 ∨ k = 1 ∨ k = 2 ∨ k = 3 := by have := hexn_bd u; omega
  unfold hexn at hk ⊢
  rcases hk' with rfl | rfl | rfl | rfl <;> simp at h <;> (split at hk) <;> (try split at hk) <;> (try split at hk) <;> (try split) <;> (try split) <;> (try split) <;> omega
/-- Digits behind place 65 - k. -/
def dig (u k j : Nat) : Value := .int .u8 (if 65 - k ≤ j then (hx (u / 16 ^ (64 - j) % 16) : Nat) else 0)

set_option maxHeartbeats 2000000 in
theorem formatBits_16 (x : Nat) (hxb : x < 65536) (w : World) (he : Env w) :
    Calls Tryd.prog 79 #[.slice none 0 0, .int .u64 x, .int .i64 16, .bool false, .bool false] w fun e w' => e = .returned (.tuple #[.slice none 0 0, .string ⟨(hexL x).toArray⟩]) ∧ Below w.heap.size w w' := by
  go_enter Tryd.func79, Tryd.ntmps79
  go_name_bytes PB hPB
  go_name_bytes DG hDG
  have eDG : DG = digits36 := hDG.symm
  subst eDG
  clear hDG hPB
  go_wp2_with (first
    | (go_at_call 90; refine (pow2_16 _).mono ?_; rintro e w' ⟨rfl, rfl⟩)
    | (go_at_call 91; refine (tz_16 _ (Env.tz (he.go (by go_grown)))).mono ?_; rintro e w' ⟨rfl, rfl⟩))
  generalize hW1 : World.alloc _ _ = W1
  have hr0 : W1.rowIs w.heap.size 105 65 (fun _ => .int .u8 0) := by
    subst hW1
    refine World.rowIs_alloc w _ _ _ (fun i hi => ?_)
    have e : Tryd.zeroCells105 = Array.replicate 65 (.int .u8 0) := rfl
    rw [e] at hi ⊢
    simp at hi
    simp [hi]
  have hB1 : Below w.heap.size w W1 := by subst hW1; go_grown
  clear hW1
  have Hr0 := Lib.hid hr0
  clear hr0
  go_loopw [1, 13] (fun v i wr => ∃ k : Nat, k < hexn x ∧ v = .int .u64 ((x / 16 ^ k : Nat) : Int) ∧ i = .int .i64 (65 - (k : Int)) ∧ wr.rowIs w.heap.size 105 65 (dig x k) ∧ Below w.heap.size w wr) (fun _ i _ => (intOf i).toNat)
  case atStart =>
    refine ⟨0, (hexn_bd x).1, by simp, rfl, Hr0.out.congr (fun j hj => ?_), hB1⟩
    unfold dig
    rw [if_neg (by omega)]
  case round =>
    obtain ⟨k, hk, rfl, rfl, hrow, hB⟩ := hrel
    have hkb := hexn_bd x
    clear Hr0 hB1
    obtain ⟨y, hy⟩ : ∃ y, y = x / 16 ^ k := ⟨_, rfl⟩
    have hyb : y < 65536 := by rw [hy]; exact Nat.lt_of_le_of_lt (Nat.div_le_self _ _) hxb
    rw [← hy]
    have hgt := hrow.lt
    have hck := hrow.cell (i := 65 - k - 1) (by omega)
    have hfk := hrow.frozen (65 - k - 1)
    have hcast : (65 : Int) - (k : Int) - 1 = ((65 - k - 1 : Nat) : Int) := by omega
    have Hrow := Lib.hid hrow
    clear hrow
    by_cases hge : 16 ≤ y
    · have hge' : (16 : Int) ≤ (y : Int) := by omega
      have hm := hexn_more x k hxb (by rw [← hy]; exact hge) (by omega)
      have hand := and15 y hyb
      have hidx := idx_hex (y % 16) (Nat.mod_lt _ (by omega))
      obtain ⟨dI, hdI⟩ : ∃ d : Int, d = ((y % 16 : Nat) : Int) := ⟨_, rfl⟩
      obtain ⟨vI, hvI⟩ : ∃ d : Int, d = (hx (y % 16) : Nat) := ⟨_, rfl⟩
      rw [← hdI] at hand
      rw [← hdI, ← hvI] at hidx
      have Hy := Lib.hid hy
      have HvI := Lib.hid hvI
      have Hhm := Lib.hid hm
      clear hy hvI hdI hm
      obtain ⟨p, hp⟩ : ∃ p : Nat, p = 65 - k - 1 := ⟨_, rfl⟩
      rw [← hp] at hck hfk hcast
      have hp65 : p < 65 := by omega
      have hp65' : (p : Int) < 65 := by omega
      have Hp := Lib.hid hp
      clear hp
      go_wp2_with fail
      refine ⟨⟨k + 1, Hhm.out, ?_, ?_, ?_, ?_⟩, ?_⟩
      · rw [Hy.out, pow16n, ← Nat.div_div_eq_div_mul]
        simp
      · congr 1
        have := Hp.out
        omega
      · refine (Hrow.out.set p _).congr fun j hj => ?_
        have e := Hp.out
        by_cases hj2 : j = p
        · rw [if_pos hj2, HvI.out, Hy.out]
          unfold dig
          rw [if_pos (by omega), show 64 - j = k by omega]
        · rw [if_neg hj2]
          unfold dig
          by_cases h65 : 65 - k ≤ j
          · rw [if_pos h65, if_pos (by omega)]
          · rw [if_neg h65, if_neg (by omega)]
      · exact hB.setCell (by simp) _
      · have e := Hp.out
        simp [intOf]
        omega
    · have hge' : ¬ (16 : Int) ≤ (y : Int) := by omega
      have hm := hexn_end x k hxb (by rw [← hy]; omega) hk
      have hidx := idx_hex y (by omega)
      obtain ⟨vI, hvI⟩ : ∃ d : Int, d = (hx y : Nat) := ⟨_, rfl⟩
      rw [← hvI] at hidx
      obtain ⟨p, hp⟩ : ∃ p : Nat, p = 65 - k - 1 := ⟨_, rfl⟩
      rw [← hp] at hck hfk hcast
      have hp65 : p < 65 := by omega
      have hp65' : (p : Int) < 65 := by omega
      have hrow2 : (wr.setCell ⟨w.heap.size, p, none⟩ (.int .u8 vI)).rowIs w.heap.size 105 65 (dig x (k + 1)) := by
        refine (Hrow.out.set p _).congr fun j hj => ?_
        by_cases hj2 : j = p
        · rw [if_pos hj2, hvI, hy]
          unfold dig
          rw [if_pos (by omega), show 64 - j = k by omega]
          rw [Nat.mod_eq_of_lt (by omega)]
        · rw [if_neg hj2]
          unfold dig
          by_cases h65 : 65 - k ≤ j
          · rw [if_pos h65, if_pos (by omega)]
          · rw [if_neg h65, if_neg (by omega)]
      have hcv : (convert 36 9 (.slice (some ⟨w.heap.size, p, none⟩) (65 - p) (65 - p))).run Tryd.prog (wr.setCell ⟨w.heap.size, p, none⟩ (.int .u8 vI)) = .ok (.string ⟨(hexL x).toArray⟩) (wr.setCell ⟨w.heap.size, p, none⟩ (.int .u8 vI)) := by
        have h := run_convert_bytes_back (P := Tryd.prog) (wr.setCell ⟨w.heap.size, p, none⟩ (.int .u8 vI)) 36 9 5 ⟨w.heap.size, p, none⟩ (65 - p) (hexL x) Tryd.underlying36 Tryd.underlying5 Tryd.underlying9 (fun j hj => by
          have hj2 : j < hexn x := by rw [hexL_len] at hj; exact hj
          rw [addr_add, hrow2.cell (by omega), hexL_at x j hj]
          unfold dig
          rw [if_pos (by omega), show 64 - (p + j) = hexn x - 1 - j by omega])
        rw [hexL_len, show hexn x = 65 - p by omega] at h
        exact h
      have hal : Tryd.prog.arrayLen 105 = 65 := by kernel_rfl
      have hsl : ∀ W, (Instr.sliceAt 105 (.pointer (some ⟨w.heap.size, 0, none⟩)) (some (.int .i64 (p : Int))) none none).run Tryd.prog W = .ok (.slice (some ⟨w.heap.size, p, none⟩) (65 - p) (65 - p)) W := fun W => by
        rw [run_sliceAt_array_l W 105 ⟨w.heap.size, 0, none⟩ (by kernel_rfl) .i64 (p : Int) (by omega) (by rw [hal]; omega)]
        go_simp
        omega
      have Hy := Lib.hid hy
      have HvI := Lib.hid hvI
      have Hp := Lib.hid hp
      have bX : Below w.heap.size w (wr.setCell ⟨w.heap.size, p, none⟩ (.int .u8 vI)) := hB.setCell (by simp) _
      clear hy hvI hp hrow2 hm hal
      go_wp2
      refine bodyPost_ret (v := .tuple #[.slice none 0 0, .string ⟨(hexL x).toArray⟩]) (by simp [*, results, Tryd.results79, go_sem] <;> rfl) rfl ⟨rfl, ?_⟩
      exact bX

theorem formatUint_16 (x : Nat) (hxb : x < 65536) (w : World) (he : Env w) :
    Calls Tryd.prog 50 #[.int .u64 x, .int .i64 16] w fun e w' => e = .returned (.string ⟨(hexL x).toArray⟩) ∧ Below w.heap.size w w' := by
  have ci : ∀ w, Env w → Calls Tryd.prog 65 #[.int .u64 x, .int .i64 16] w fun e w' => e = .returned (.string ⟨(hexL x).toArray⟩) ∧ Below w.heap.size w w' := fun w he => by
    go_enter Tryd.func65, Tryd.ntmps65
    go_wp2_with fail
    refine (formatBits_16 x hxb _ he).mono ?_
    rintro e w1 ⟨rfl, hw1⟩
    go_wp2
    go_ret
    exact ⟨rfl, hw1⟩
  go_enter Tryd.func50, Tryd.ntmps50
  go_wp2_with fail
  refine (ci _ he).mono ?_
  rintro e w1 ⟨rfl, hw1⟩
  go_wp2
  go_ret
  exact ⟨rfl, hw1⟩

end Go.Proofs.YtfebhfghjdedhaaDoor

namespace Go.Proofs.YtfebhfghjdedhaaDoor
open Go.RowKit
set_option maxRecDepth 100000

/-- A digit of sixteen, of a rune: its value; whether it is one. -/
def dgv (r : Int) : Int := if 48 ≤ r ∧ r ≤ 57 then r - 48 else if 97 ≤ r ∧ r ≤ 102 then r - 97 + 10 else if 65 ≤ r ∧ r ≤ 70 then r - 65 + 10 else 0
def dgo (r : Int) : Bool := decide (48 ≤ r ∧ r ≤ 57) || decide (97 ≤ r ∧ r ≤ 102) || decide (65 ≤ r ∧ r ≤ 70)

theorem digit_any (r : Int) (h0 : -2147483648 ≤ r) (h1 : r ≤ 2147483647) (w : World) :
    Calls Tryd.prog 42 #[.int .i32 r] w fun e w' => e = .returned (.tuple #[.int .i64 (dgv r), .bool (dgo r)]) ∧ w' = w := by
  by_cases a : 48 ≤ r ∧ r ≤ 57
  · obtain ⟨a1, a2⟩ := a
    rw [show dgv r = r - 48 from if_pos ⟨a1, a2⟩, show dgo r = true by unfold dgo; simp [a1, a2]]
    go_enter Tryd.func42, Tryd.ntmps42
    go_wp2
    refine bodyPost_ret (v := .tuple #[.int .i64 (r - 48), .bool true]) (by simp [*, results, Tryd.results42, go_sem] <;> rfl) rfl ⟨rfl, rfl⟩
  · by_cases b : 97 ≤ r ∧ r ≤ 102
    · obtain ⟨b1, b2⟩ := b
      have a2 : ¬ r ≤ 57 := by omega
      have a1 : 48 ≤ r := by omega
      rw [show dgv r = r - 97 + 10 by unfold dgv; rw [if_neg a, if_pos ⟨b1, b2⟩], show dgo r = true by unfold dgo; simp [b1, b2]]
      clear a
      go_enter Tryd.func42, Tryd.ntmps42
      go_wp2
      refine bodyPost_ret (v := .tuple #[.int .i64 (r - 97 + 10), .bool true]) (by simp [*, results, Tryd.results42, go_sem] <;> rfl) rfl ⟨rfl, rfl⟩
    · by_cases c : 65 ≤ r ∧ r ≤ 70
      · obtain ⟨c1, c2⟩ := c
        have a2 : ¬ r ≤ 57 := by omega
        have a1 : 48 ≤ r := by omega
        have b1 : ¬ 97 ≤ r := by omega
        rw [show dgv r = r - 65 + 10 by unfold dgv; rw [if_neg a, if_neg b, if_pos ⟨c1, c2⟩], show dgo r = true by unfold dgo; simp [c1, c2]]
        clear a b
        go_enter Tryd.func42, Tryd.ntmps42
        go_wp2
        refine bodyPost_ret (v := .tuple #[.int .i64 (r - 65 + 10), .bool true]) (by simp [*, results, Tryd.results42, go_sem] <;> rfl) rfl ⟨rfl, rfl⟩
      · rw [show dgv r = 0 by unfold dgv; rw [if_neg a, if_neg b, if_neg c], show dgo r = false by unfold dgo; simp only [Bool.or_eq_false_iff, decide_eq_false_iff_not]; exact ⟨⟨a, b⟩, c⟩]
        go_enter Tryd.func42, Tryd.ntmps42
        go_wp2
        all_goals first | (exfalso; omega) | skip
        all_goals refine bodyPost_ret (v := .tuple #[.int .i64 0, .bool false]) (by simp [*, results, Tryd.results42, go_sem] <;> rfl) rfl ⟨rfl, rfl⟩

/-- A number, so much at most, from its byte i on. -/
def numGo (most : Int) : List UInt8 → Nat → Int → Option Int
  | [], _, n => some n
  | b :: l, i, n => if dgo b.toNat = true ∧ dgv b.toNat ≤ 9 ∧ ¬ (0 < i ∧ n = 0) ∧ n * 10 + dgv b.toNat ≤ most then numGo most l (i + 1) (n * 10 + dgv b.toNat) else none
def numL (most : Int) (l : List UInt8) : Option Int := if l = [] then none else numGo most l 0 0
theorem numGo_cons (most : Int) (b : UInt8) (l : List UInt8) (i : Nat) (n : Int) : numGo most (b :: l) i n = if dgo b.toNat = true ∧ dgv b.toNat ≤ 9 ∧ ¬ (0 < i ∧ n = 0) ∧ n * 10 + dgv b.toNat ≤ most then numGo most l (i + 1) (n * 10 + dgv b.toNat) else none := rfl
theorem numGo_nil (most : Int) (i : Nat) (n : Int) : numGo most [] i n = some n := rfl
theorem toList_ne (s : ByteArray) (i : Nat) (h : i < s.size) : s.data.toList ≠ [] := fun e => by
  have h2 : i < s.data.toList.length := by simpa using h
  rw [e] at h2
  simp at h2
theorem dgv_bd (r : Int) : 0 ≤ dgv r ∧ dgv r ≤ 15 := by unfold dgv; split <;> (try split) <;> (try split) <;> omega
theorem dgo_high (r : Int) (h : 128 ≤ r) : dgo r = false := by
  unfold dgo
  simp only [Bool.or_eq_false_iff, decide_eq_false_iff_not]
  omega
theorem drop_at (s : ByteArray) (i : Nat) (h : i < s.size) : s.data.toList.drop i = s[i] :: s.data.toList.drop (i + 1) := by
  have h' : i < s.data.toList.length := by simpa using h
  rw [List.drop_eq_getElem_cons h']
  rfl

set_option maxHeartbeats 1000000 in
theorem number_any (s : ByteArray) (most : Int) (hm0 : 0 ≤ most) (hm1 : most ≤ 65535) (w : World) :
    Calls Tryd.prog 20 #[.string s, .int .i64 most] w fun e w' => e = .returned (.tuple #[.int .i64 ((numL most s.data.toList).getD 0), .bool (numL most s.data.toList).isSome]) ∧ Below w.heap.size w w' := by
  go_enter Tryd.func20, Tryd.ntmps20
  go_wp2
  go_loopw [6] (fun v wr => ∃ (i : Nat) (n : Int), v = .int .i64 n ∧ wr.heap[w.heap.size]? = some (.stringIter s i) ∧ Below w.heap.size w wr ∧ i ≤ s.size ∧ 0 ≤ n ∧ n ≤ most ∧ numGo most (s.data.toList.drop i) i n = numGo most s.data.toList 0 0) (fun _ wr => s.size - wr.iterPos w.heap.size)
  case atStart =>
    exact ⟨0, 0, rfl, World.iter_heap _ _ _, ((Below.refl _ w).alloc (Nat.le_refl _) _), Nat.zero_le _, Int.le_refl _, hm0, rfl⟩
  case round =>
    obtain ⟨i, n, rfl, hit, hb, hi, hn0, hn1, hgo⟩ := hrel
    by_cases hp : i < s.size
    · have hnx : ∀ ty, (Instr.next (.pointer (some ⟨w.heap.size, 0, none⟩)) true ty).run Tryd.prog wr = _ := fun ty => Lib.run_next_any_at wr w.heap.size s i ty hit hp
      have hd1 := decode_le s i
      have hit2 := Lib.iterAt_heap wr w.heap.size s i (i + (Utf8.decode s i).2) hit
      have hb2 := Lib.below_iterAt hb (k := w.heap.size) (Nat.le_refl _) s (i + (Utf8.decode s i).2)
      have hs0 := toList_ne s i hp
      have hbad : numGo most (s.data.toList.drop i) i n = none → numL most s.data.toList = none := fun h => by unfold numL; rw [if_neg hs0, ← hgo, h]
      have hst := drop_at s i hp
      have hmeas : s.size - wr.iterPos w.heap.size = s.size - i := by simp [World.iterPos, hit]
      by_cases hlow : (s[i]'hp).toNat < 128
      · rw [decode_ascii s i hp hlow] at hnx hd1 hit2 hb2
        obtain ⟨r, hr⟩ : ∃ r : Int, r = ((s[i]'hp).toNat : Int) := ⟨_, rfl⟩
        have hr1 : 0 ≤ r ∧ r < 128 := by omega
        simp only [← hr] at hnx
        rw [hst, numGo_cons] at hgo hbad
        rw [← hr] at hgo hbad
        obtain ⟨d0, d1⟩ := dgv_bd r
        have cd := digit_any r (by omega) (by omega) (wr.iterAt w.heap.size s (i + 1))
        clear hr hst hd1 hit
        generalize dgv r = d at *
        cases hok : dgo r with
        | false =>
          rw [hok] at cd hgo hbad
          have hN := hbad (if_neg (by simp))
          clear hgo hbad
          go_wp2_with (go_at_call 42; refine cd.mono ?_; rintro e w' ⟨rfl, rfl⟩)
          refine bodyPost_ret (v := .tuple #[.int .i64 0, .bool false]) (by simp [*, results, Tryd.results20, go_sem] <;> rfl) rfl ⟨by rw [hN]; rfl, hb2⟩
        | true =>
          rw [hok] at cd hgo hbad
          by_cases h9 : d ≤ 9
          · by_cases hz : 0 < i ∧ n = 0
            · have hN := hbad (if_neg (by omega))
              clear hgo hbad
              obtain ⟨hz1, rfl⟩ := hz
              have hz2 : (0 : Int) < (i : Int) := by omega
              have h9' : ¬ 9 < d := by omega
              go_wp2_with (go_at_call 42; refine cd.mono ?_; rintro e w' ⟨rfl, rfl⟩)
              refine bodyPost_ret (v := .tuple #[.int .i64 0, .bool false]) (by simp [*, results, Tryd.results20, go_sem] <;> rfl) rfl ⟨by rw [hN]; rfl, hb2⟩
            · have h9' : ¬ 9 < d := by omega
              by_cases hmx : n * 10 + d ≤ most
              · rw [if_pos ⟨rfl, h9, hz, hmx⟩] at hgo
                have hmx' : ¬ most < n * 10 + d := by omega
                clear hbad
                by_cases hz1 : 0 < (i : Int)
                · have hz2 : (n == 0) = false := by simp; omega
                  go_wp2_with (go_at_call 42; refine cd.mono ?_; rintro e w' ⟨rfl, rfl⟩)
                  go_roundw
                  case rel => exact ⟨i + 1, n * 10 + d, rfl, hit2, hb2, hp, by omega, hmx, hgo⟩
                  case measure => rw [hmeas]; simp only [World.iterPos, hit2]; omega
                · go_wp2_with (go_at_call 42; refine cd.mono ?_; rintro e w' ⟨rfl, rfl⟩)
                  go_roundw
                  case rel => exact ⟨i + 1, n * 10 + d, rfl, hit2, hb2, hp, by omega, hmx, hgo⟩
                  case measure => rw [hmeas]; simp only [World.iterPos, hit2]; omega
              · have hN := hbad (if_neg (by omega))
                have hmx' : most < n * 10 + d := by omega
                clear hgo hbad
                by_cases hz1 : 0 < (i : Int)
                · have hz2 : (n == 0) = false := by simp; omega
                  go_wp2_with (go_at_call 42; refine cd.mono ?_; rintro e w' ⟨rfl, rfl⟩)
                  refine bodyPost_ret (v := .tuple #[.int .i64 0, .bool false]) (by simp [*, results, Tryd.results20, go_sem] <;> rfl) rfl ⟨by rw [hN]; rfl, hb2⟩
                · go_wp2_with (go_at_call 42; refine cd.mono ?_; rintro e w' ⟨rfl, rfl⟩)
                  refine bodyPost_ret (v := .tuple #[.int .i64 0, .bool false]) (by simp [*, results, Tryd.results20, go_sem] <;> rfl) rfl ⟨by rw [hN]; rfl, hb2⟩
          · have hN := hbad (if_neg (by omega))
            clear hgo hbad
            have h9' : 9 < d := by omega
            go_wp2_with (go_at_call 42; refine cd.mono ?_; rintro e w' ⟨rfl, rfl⟩)
            refine bodyPost_ret (v := .tuple #[.int .i64 0, .bool false]) (by simp [*, results, Tryd.results20, go_sem] <;> rfl) rfl ⟨by rw [hN]; rfl, hb2⟩
      · have hh := (decode_high s i hp (by omega)).1
        rw [hst, numGo_cons] at hbad
        have hN := hbad (if_neg (by rw [dgo_high _ (by omega)]; simp))
        have cd := digit_any ((Utf8.decode s i).1 : Int) (by omega) (by omega) (wr.iterAt w.heap.size s (i + (Utf8.decode s i).2))
        rw [dgo_high _ (by omega)] at cd
        clear hgo hbad hst
        generalize Utf8.decode s i = dd at *
        go_wp2_with (go_at_call 42; refine cd.mono ?_; rintro e w' ⟨rfl, rfl⟩)
        refine bodyPost_ret (v := .tuple #[.int .i64 0, .bool false]) (by simp [*, results, Tryd.results20, go_sem] <;> rfl) rfl ⟨by rw [hN]; rfl, hb2⟩
    · have hnx : ∀ ty, (Instr.next (.pointer (some ⟨w.heap.size, 0, none⟩)) true ty).run Tryd.prog wr = _ := fun ty => Lib.run_next_end_at wr w.heap.size s i ty hit hp
      obtain rfl : i = s.size := by omega
      rw [List.drop_eq_nil_of_le (by simp), numGo_nil] at hgo
      by_cases hs0 : s.data.toList = []
      · obtain rfl : s = ⟨#[]⟩ := by cases s; simp at hs0; subst hs0; rfl
        have hN : numL most (⟨#[]⟩ : ByteArray).data.toList = none := rfl
        obtain rfl : n = 0 := by simpa [numGo] using hgo
        clear hgo
        go_wp2
        refine bodyPost_ret (v := .tuple #[.int .i64 0, .bool false]) (by simp [*, results, Tryd.results20, go_sem] <;> rfl) rfl ⟨rfl, hb⟩
      · have hN : numL most s.data.toList = some n := by unfold numL; rw [if_neg hs0, ← hgo]
        have hne : ¬ s.toList = [] := by rw [ByteArray.toList_eq]; exact hs0
        clear hgo
        go_wp2
        refine bodyPost_ret (v := .tuple #[.int .i64 n, .bool true]) (by simp [*, results, Tryd.results20, go_sem] <;> rfl) rfl ⟨by rw [hN]; rfl, hb⟩

/-- A group: one to four digits of sixteen. -/
def grpGo : List UInt8 → Int → Option Int
  | [], n => some n
  | b :: l, n => if dgo b.toNat = true then grpGo l (n * 16 + dgv b.toNat) else none
def grpL (l : List UInt8) : Option Int := if l = [] ∨ 4 < l.length then none else grpGo l 0
theorem grpGo_cons (b : UInt8) (l : List UInt8) (n : Int) : grpGo (b :: l) n = if dgo b.toNat = true then grpGo l (n * 16 + dgv b.toNat) else none := rfl
theorem grpGo_nil (n : Int) : grpGo [] n = some n := rfl
theorem pow16 (i : Nat) : (16 : Int) ^ (i + 1) = 16 ^ i * 16 := rfl
theorem pow16_le (i : Nat) (h : i ≤ 4) : (16 : Int) ^ i ≤ 65536 ∧ 1 ≤ (16 : Int) ^ i := by
  have : i = 0 ∨ i = 1 ∨ i = 2 ∨ i = 3 ∨ i = 4 := by omega
  rcases this with rfl | rfl | rfl | rfl | rfl <;> decide

set_option maxHeartbeats 1000000 in
theorem group_any (s : ByteArray) (w : World) :
    Calls Tryd.prog 59 #[.string s] w fun e w' => e = .returned (.tuple #[.int .i64 ((grpL s.data.toList).getD 0), .bool (grpL s.data.toList).isSome]) ∧ Below w.heap.size w w' := by
  have hlen : s.data.toList.length = s.size := by simp
  by_cases hs0 : s.data.toList = []
  · have hN : grpL s.data.toList = none := if_pos (.inl hs0)
    have hne : s.toList.isEmpty = true := by rw [ByteArray.toList_eq, hs0]; rfl
    go_enter Tryd.func59, Tryd.ntmps59
    go_wp2
    refine bodyPost_ret (v := .tuple #[.int .i64 0, .bool false]) (by simp [*, results, Tryd.results59, go_sem] <;> rfl) rfl ⟨by rw [hN]; rfl, ?_⟩
    go_grown
  have hne : s.toList.isEmpty = false := by rw [ByteArray.toList_eq]; cases h : s.data.toList with | nil => exact absurd h hs0 | cons a b => rfl
  by_cases h4 : 4 < s.size
  · have hN : grpL s.data.toList = none := if_pos (.inr (by omega))
    have h4' : 4 < (s.size : Int) := by omega
    go_enter Tryd.func59, Tryd.ntmps59
    go_wp2
    refine bodyPost_ret (v := .tuple #[.int .i64 0, .bool false]) (by simp [*, results, Tryd.results59, go_sem] <;> rfl) rfl ⟨by rw [hN]; rfl, ?_⟩
    go_grown
  have h4' : ¬ 4 < (s.size : Int) := by omega
  have hL : grpL s.data.toList = grpGo s.data.toList 0 := if_neg (by rw [hlen]; exact fun h => h.elim hs0 h4)
  go_enter Tryd.func59, Tryd.ntmps59
  go_wp2
  go_loopw [4] (fun v wr => ∃ (i : Nat) (n : Int), v = .int .i64 n ∧ wr.heap[w.heap.size]? = some (.stringIter s i) ∧ Below w.heap.size w wr ∧ i ≤ s.size ∧ 0 ≤ n ∧ n < 16 ^ i ∧ grpGo (s.data.toList.drop i) n = grpGo s.data.toList 0) (fun _ wr => s.size - wr.iterPos w.heap.size)
  case atStart =>
    exact ⟨0, 0, rfl, World.iter_heap _ _ _, ((Below.refl _ w).alloc (Nat.le_refl _) _), Nat.zero_le _, Int.le_refl _, by decide, rfl⟩
  case round =>
    obtain ⟨i, n, rfl, hit, hb, hi, hn0, hn1, hgo⟩ := hrel
    have hpw := pow16_le i (by omega)
    by_cases hp : i < s.size
    · have hnx : ∀ ty, (Instr.next (.pointer (some ⟨w.heap.size, 0, none⟩)) true ty).run Tryd.prog wr = _ := fun ty => Lib.run_next_any_at wr w.heap.size s i ty hit hp
      have hd1 := decode_le s i
      have hit2 := Lib.iterAt_heap wr w.heap.size s i (i + (Utf8.decode s i).2) hit
      have hb2 := Lib.below_iterAt hb (k := w.heap.size) (Nat.le_refl _) s (i + (Utf8.decode s i).2)
      have hst := drop_at s i hp
      have hmeas : s.size - wr.iterPos w.heap.size = s.size - i := by simp [World.iterPos, hit]
      by_cases hlow : (s[i]'hp).toNat < 128
      · rw [decode_ascii s i hp hlow] at hnx hd1 hit2 hb2
        obtain ⟨r, hr⟩ : ∃ r : Int, r = ((s[i]'hp).toNat : Int) := ⟨_, rfl⟩
        have hr1 : 0 ≤ r ∧ r < 128 := by omega
        simp only [← hr] at hnx
        rw [hst, grpGo_cons, ← hr] at hgo
        obtain ⟨d0, d1⟩ := dgv_bd r
        have cd := digit_any r (by omega) (by omega) (wr.iterAt w.heap.size s (i + 1))
        clear hr hst hd1 hit
        generalize dgv r = d at *
        cases hok : dgo r with
        | false =>
          rw [hok] at cd hgo
          have hN : grpL s.data.toList = none := by rw [hL, ← hgo]; rfl
          clear hgo hL
          go_wp2_with (go_at_call 42; refine cd.mono ?_; rintro e w' ⟨rfl, rfl⟩)
          refine bodyPost_ret (v := .tuple #[.int .i64 0, .bool false]) (by simp [*, results, Tryd.results59, go_sem] <;> rfl) rfl ⟨by rw [hN]; rfl, hb2⟩
        | true =>
          rw [hok, if_pos rfl] at hgo
          rw [hok] at cd
          have hB := pow16 i
          have q0 : 0 ≤ n * 16 + d := by omega
          have q1 : n * 16 + d < 16 ^ (i + 1) := by omega
          go_wp2_with (go_at_call 42; refine cd.mono ?_; rintro e w' ⟨rfl, rfl⟩)
          go_roundw
          case rel => exact ⟨i + 1, n * 16 + d, rfl, hit2, hb2, hp, q0, q1, hgo⟩
          case measure => rw [hmeas]; simp only [World.iterPos, hit2]; omega
      · have hh := (decode_high s i hp (by omega)).1
        have cd := digit_any ((Utf8.decode s i).1 : Int) (by omega) (by omega) (wr.iterAt w.heap.size s (i + (Utf8.decode s i).2))
        rw [dgo_high _ (by omega)] at cd
        have hN : grpL s.data.toList = none := by rw [hL, ← hgo, hst, grpGo_cons, dgo_high _ (by omega)]; rfl
        clear hgo hst hL
        generalize Utf8.decode s i = dd at *
        go_wp2_with (go_at_call 42; refine cd.mono ?_; rintro e w' ⟨rfl, rfl⟩)
        refine bodyPost_ret (v := .tuple #[.int .i64 0, .bool false]) (by simp [*, results, Tryd.results59, go_sem] <;> rfl) rfl ⟨by rw [hN]; rfl, hb2⟩
    · have hnx : ∀ ty, (Instr.next (.pointer (some ⟨w.heap.size, 0, none⟩)) true ty).run Tryd.prog wr = _ := fun ty => Lib.run_next_end_at wr w.heap.size s i ty hit hp
      obtain rfl : i = s.size := by omega
      rw [List.drop_eq_nil_of_le (by simp), grpGo_nil] at hgo
      have hN : grpL s.data.toList = some n := by rw [hL, ← hgo]
      clear hgo hL
      go_wp2
      refine bodyPost_ret (v := .tuple #[.int .i64 n, .bool true]) (by simp [*, results, Tryd.results59, go_sem] <;> rfl) rfl ⟨by rw [hN]; rfl, hb⟩

end Go.Proofs.YtfebhfghjdedhaaDoor

namespace Go.Proofs.YtfebhfghjdedhaaDoor
open Go.RowKit
set_option maxRecDepth 100000

/-- A text's parts, so many and one at most. -/
def partsL (c : UInt8) (n : Nat) (l : List UInt8) : List (List UInt8) := Lib.splitK [c] 0 (min n l.length) l

theorem tsplit_any (s : ByteArray) (c : UInt8) (n : Nat) (hn : 1 ≤ n) (hn2 : n ≤ 100) (w : World) (he : Env w) (hs : s.size < 4294967281) :
    Calls Tryd.prog 34 #[.string s, .string ⟨#[c]⟩, .int .i64 n] w fun e w' => ∃ (P : List ByteArray) (cap : Nat), e = .returned (.slice (some ⟨w.heap.size, 0, none⟩) P.length cap) ∧ P.map (·.data.toList) = partsL c n s.data.toList ∧ P.length ≤ n + 1 ∧ P.length ≤ cap ∧
      (∀ j x, P[j]? = some x → w'.cell? ⟨w.heap.size, j, none⟩ = some (.string x)) ∧ w.heap.size < w'.heap.size ∧ Below w.heap.size w w' := by
  obtain ⟨m, hm⟩ := he.max
  have hc := Tryd.strings_SplitN s ⟨#[c]⟩ (n + 1) m w hs hm (by simp [ByteArray.size]) (by omega) (by omega)
  rw [show min (n + 1) (s.size + 1) - 1 = min n s.size by omega, show min (n + 1) (s.size + 1) = min n s.size + 1 by omega] at hc
  have hl := Lib.splitB_length_le ⟨#[c]⟩ 0 (min n s.size) s
  have hd := Lib.splitB_data ⟨#[c]⟩ 0 (min n s.size) s
  generalize Lib.splitB ⟨#[c]⟩ 0 (min n s.size) s = P at *
  rw [show ((n + 1 : Nat) : Int) = (n : Int) + 1 by omega] at hc
  have HC := Lib.hid hc
  clear hc
  go_enter Tryd.func34, Tryd.ntmps34
  go_wp2_with fail
  refine HC.out.mono ?_
  rintro e w1 ⟨rfl, rfl⟩
  generalize hW1 : World.alloc w _ = W1
  have q1 : ∀ (j : Nat) x, P[j]? = some x → W1.cell? ⟨w.heap.size, j, none⟩ = some (.string x) := by
    intro j x hj
    subst hW1
    rw [World.cell?_alloc_new]
    have hlt : j < P.length := (List.getElem?_eq_some_iff.1 hj).1
    simp only [Lib.cellsOf, List.getElem?_toArray]
    rw [List.getElem?_append_left (by simpa using hlt), List.getElem?_map, hj, Option.map_some]
  have q2 : w.heap.size < W1.heap.size := by subst hW1; simp
  have q3 : Below w.heap.size w W1 := by subst hW1; exact (Below.refl _ w).alloc (Nat.le_refl _) _
  have q4 : P.map (·.data.toList) = partsL c n s.data.toList := by
    rw [hd]
    unfold partsL
    congr 1
  clear hW1 HC hd
  have Q1 := Lib.hid q1
  clear q1
  go_wp2
  refine bodyPost_ret (v := .slice (some ⟨w.heap.size, 0, none⟩) P.length (min n s.size + 1)) (by simp [*, results, Tryd.results34, go_sem] <;> rfl) rfl ⟨P, min n s.size + 1, rfl, q4, by omega, by omega, Q1.out, q2, q3⟩

/-- The bytes that parts stand for, one behind the other. -/
def bytesGo (f : List UInt8 → Option (List Int)) : List (List UInt8) → List Int → Option (List Int)
  | [], acc => some acc
  | p :: ps, acc => match f p with
    | none => none
    | some bs => bytesGo f ps (acc ++ bs)
theorem bytesGo_cons (f : List UInt8 → Option (List Int)) (p : List UInt8) (ps : List (List UInt8)) (acc : List Int) : bytesGo f (p :: ps) acc = match f p with | none => none | some bs => bytesGo f ps (acc ++ bs) := rfl
theorem bytesGo_none {f : List UInt8 → Option (List Int)} {p : List UInt8} {ps : List (List UInt8)} {acc : List Int} (h : f p = none) : bytesGo f (p :: ps) acc = none := by rw [bytesGo_cons, h]
theorem bytesGo_some {f : List UInt8 → Option (List Int)} {p : List UInt8} {ps : List (List UInt8)} {acc bs : List Int} (h : f p = some bs) : bytesGo f (p :: ps) acc = bytesGo f ps (acc ++ bs) := by rw [bytesGo_cons, h]
def one (p : List UInt8) : Option (List Int) := (numL 255 p).map fun n => [n]
def shortL (l : List UInt8) : Option (List Int) := if (partsL 46 4 l).length = 4 then bytesGo one (partsL 46 4 l) [] else none
def u8s (l : List Int) : List Value := l.map (Value.int .u8)
theorem u8s_append (a b : List Int) : u8s (a ++ b) = u8s a ++ u8s b := List.map_append
/-- What is handed back: a row of bytes of its own and whether there is one. -/
def PartPost (w : World) (o : Option (List Int)) (e : Ending) (w' : World) : Prop :=
  ∃ v, e = .returned (.tuple #[v, .bool o.isSome]) ∧ w'.ownsRow w.heap.size 5 1 v (o.getD []).length (u8s (o.getD [])) ∧ Below w.heap.size w w'
theorem numGo_bd (most : Int) : ∀ (l : List UInt8) (i : Nat) (n x : Int), 0 ≤ n → n ≤ most → numGo most l i n = some x → 0 ≤ x ∧ x ≤ most
  | [], _, n, x, h0, h1, h => by simp [numGo] at h; omega
  | b :: l, i, n, x, h0, h1, h => by
    rw [numGo_cons] at h
    by_cases hc : dgo b.toNat = true ∧ dgv b.toNat ≤ 9 ∧ ¬ (0 < i ∧ n = 0) ∧ n * 10 + dgv b.toNat ≤ most
    · rw [if_pos hc] at h
      have := dgv_bd b.toNat
      exact numGo_bd most l _ _ x (by omega) hc.2.2.2 h
    · rw [if_neg hc] at h; cases h
theorem numL_bd {most : Int} {l : List UInt8} {x : Int} (hm : 0 ≤ most) (h : numL most l = some x) : 0 ≤ x ∧ x ≤ most := by
  unfold numL at h
  split at h
  · cases h
  · exact numGo_bd most l 0 0 x (Int.le_refl _) hm h

theorem own_keep {w w' : World} {base : Nat} {e : TypeId} {size n : Nat} {v : Value} {xs : List Value} (h : w.ownsRow base e size v n xs) (hb : Below w.heap.size w w') : w'.ownsRow base e size v n xs := by
  obtain ⟨h1, h2⟩ := h
  refine ⟨h1, h2.imp id ?_⟩
  rintro ⟨g, cap, cur, e1, e2, e3, e4⟩
  exact ⟨g, cap, cur, e1, e2, (hb.block g (Array.getElem?_eq_some_iff.1 e3).1).trans e3, e4⟩

set_option maxHeartbeats 2000000 in
theorem parseShort_any (s : ByteArray) (w : World) (he : Env w) (hs : s.size < 4294967281) :
    Calls Tryd.prog 13 #[.string s] w (PartPost w (shortL s.data.toList)) := by
  obtain ⟨i0, hi0, hz0, hz1, hz2⟩ := info_parts info_u8
  go_enter Tryd.func13, Tryd.ntmps13
  go_wp2_with fail
  refine (tsplit_any s 46 4 (by omega) (by omega) w he hs).mono ?_
  rintro e W1 ⟨P, cap, rfl, hP, hPn, hPc, hcell, hsz, hB1⟩
  have hlen : P.length = (partsL 46 4 s.data.toList).length := by rw [← hP, List.length_map]
  by_cases h4 : P.length = 4
  · have hS : shortL s.data.toList = bytesGo one (partsL 46 4 s.data.toList) [] := if_pos (by omega)
    have h4' : ((P.length : Int) != 4) = false := by simp; omega
    have HP := Lib.hid hP
    have Hcell := Lib.hid hcell
    clear hP hcell hlen
    go_wp2_with fail
    go_loopw [5, 17] (fun l i wr => ∃ (k : Nat) (acc : List Int), k ≤ 4 ∧ i = .int .i64 k ∧ acc.length = k ∧ wr.ownsRow W1.heap.size 5 1 l acc.length (u8s acc) ∧ Below W1.heap.size W1 wr ∧ bytesGo one ((partsL 46 4 s.data.toList).drop k) acc = bytesGo one (partsL 46 4 s.data.toList) []) (fun _ i _ => 4 - (intOf i).toNat)
    case atStart => exact ⟨0, [], by omega, rfl, rfl, World.ownsRow_nil _ _ _ _, Below.refl _ _, rfl⟩
    case round =>
      obtain ⟨k, acc, hk, rfl, hal, hown, hB, hgo⟩ := hrel
      have Hown := Lib.hid hown
      have Hge := Lib.hid (own_ge hown)
      have hbase := hB.size
      clear hown
      by_cases hlt : k < 4
      · have hlt' : (k : Int) < (P.length : Int) := by omega
        obtain ⟨x, hx⟩ : ∃ x, P[k]? = some x := ⟨_, List.getElem?_eq_getElem (by omega)⟩
        have hck := (hB.cell (p := ⟨w.heap.size, k, none⟩) hsz).trans (Hcell.out k x hx)
        have hxp : (partsL 46 4 s.data.toList).drop k = x.data.toList :: (partsL 46 4 s.data.toList).drop (k + 1) := by
          rw [← HP.out, List.drop_eq_getElem_cons (by simp; omega)]
          congr 1
          have := (List.getElem?_eq_some_iff.1 hx).2
          simp [this]
        rw [hxp] at hgo
        clear hxp
        have cn := number_any x 255 (by omega) (by omega) wr
        cases hN : numL 255 x.data.toList with
        | none =>
          have hone : one x.data.toList = none := by unfold one; rw [hN]; rfl
          rw [bytesGo_none hone] at hgo
          have HR := Lib.hid (show shortL s.data.toList = none by rw [hS, ← hgo])
          rw [hN] at cn
          clear hgo hS
          go_wp2_with (go_at_call 20; refine cn.mono ?_; rintro e w2 ⟨rfl, hw2⟩)
          have bX : Below w.heap.size w w2 := (hB1.trans (hB.mono (Nat.le_of_lt hsz))).trans (hw2.mono (by omega))
          refine bodyPost_ret (v := .tuple #[.slice none 0 0, .bool false]) (by simp [*, results, Tryd.results13, go_sem] <;> rfl) rfl ⟨.slice none 0 0, by rw [HR.out]; rfl, by rw [HR.out]; exact World.ownsRow_nil _ _ _ _, bX⟩
        | some n =>
          have hone : one x.data.toList = some [n] := by unfold one; rw [hN]; rfl
          rw [bytesGo_some hone] at hgo
          obtain ⟨n0, n1⟩ := numL_bd (by omega) hN
          rw [hN] at cn
          go_wp2_with fail
          refine cn.mono ?_
          rintro e w2 ⟨rfl, hw2⟩
          have hz2w := hw2.size
          have Hown2 := Lib.hid (own_keep Hown.out hw2)
          go_wp2_with (
            at_builtin
            refine wpList_append_own _ rfl (.tmp 28) (.tmp 31) _ rfl W1.heap.size 5 i0 _ 1 1 Tryd.underlying36 hi0 hz0 hz1 hz2 rfl (by omega) _ _ _ rfl (Hown2.out.alloc _) ⟨w2.heap.size, 0, none⟩ 1 1 [.int .u8 n] rfl rfl (World.news_of_block (cs := #[.int .u8 n]) (t := 5) (fr := (0, 0)) (heap_alloc_new w2 _)) (by simp [Value.oneCell']) (by simp only [maxLen]; omega) (by omega) (by simp; omega) ?_
            intro v1 w3 hown1 hg1 hat1
            have H1 := Lib.hid hown1
            have G1 := Lib.hid hg1
            clear hown1 hg1 hat1
            )
          have bX : Below W1.heap.size W1 w3 := ((hB.trans (hw2.mono hbase)).alloc (by omega) _).grown G1.out (by simp; omega) Hge.out
          have hal2 : (acc ++ [n]).length = k + 1 := by simp; omega
          refine ⟨⟨k + 1, acc ++ [n], by omega, by go_num, hal2, ?_, bX, hgo⟩, by simp [intOf]; omega⟩
          rw [List.length_append, u8s_append]
          exact H1.out
      · obtain rfl : k = 4 := by omega
        have hlt' : ¬ ((4 : Nat) : Int) < (P.length : Int) := by omega
        rw [List.drop_eq_nil_of_le (by rw [← HP.out, List.length_map]; omega)] at hgo
        have HR := Lib.hid (show shortL s.data.toList = some acc by rw [hS, ← hgo]; rfl)
        clear hgo hS
        go_wp2
        refine bodyPost_ret (v := .tuple #[u5, .bool true]) (by simp [*, results, Tryd.results13, go_sem] <;> rfl) rfl ⟨u5, by rw [HR.out]; rfl, by rw [HR.out]; exact Hown.out.mono (Nat.le_of_lt hsz), hB1.trans (hB.mono (Nat.le_of_lt hsz))⟩
  · have HR := Lib.hid (show shortL s.data.toList = none from if_neg (by omega))
    have h4' : ((P.length : Int) != 4) = true := by rw [bne_iff_ne]; omega
    clear hcell hP
    go_wp2
    refine bodyPost_ret (v := .tuple #[.slice none 0 0, .bool false]) (by simp [*, results, Tryd.results13, go_sem] <;> rfl) rfl ⟨.slice none 0 0, by rw [HR.out]; rfl, by rw [HR.out]; exact World.ownsRow_nil _ _ _ _, hB1⟩

def two (p : List UInt8) : Option (List Int) := (grpL p).map fun n => [n / 256, n % 256]
def grsL (l : List UInt8) : Option (List Int) := if l = [] then some [] else bytesGo two (partsL 58 8 l) []
theorem grpGo_bd : ∀ (l : List UInt8) (n x : Int), 0 ≤ n → grpGo l n = some x → 0 ≤ x ∧ x < (n + 1) * 16 ^ l.length
  | [], n, x, h0, h => by simp [grpGo] at h; subst h; simp; omega
  | b :: l, n, x, h0, h => by
    rw [grpGo_cons] at h
    by_cases hc : dgo b.toNat = true
    · rw [if_pos hc] at h
      have hd := dgv_bd b.toNat
      obtain ⟨h1, h2⟩ := grpGo_bd l _ x (by omega) h
      refine ⟨h1, Int.lt_of_lt_of_le h2 ?_⟩
      rw [List.length_cons, pow16, Int.mul_comm (16 ^ l.length) 16, ← Int.mul_assoc]
      exact Int.mul_le_mul_of_nonneg_right (by omega) (Int.le_of_lt (Int.pow_pos (by decide)))
    · rw [if_neg hc] at h; cases h
theorem grpL_bd {l : List UInt8} {x : Int} (h : grpL l = some x) : 0 ≤ x ∧ x < 65536 := by
  unfold grpL at h
  split at h
  · cases h
  · rename_i hc
    obtain ⟨h1, h2⟩ := grpGo_bd l 0 x (Int.le_refl _) h
    have := (pow16_le l.length (by omega)).1
    omega
set_option maxHeartbeats 2000000 in
theorem parseGroups_any (s : ByteArray) (w : World) (he : Env w) (hs : s.size < 4294967281) :
    Calls Tryd.prog 35 #[.string s] w (PartPost w (grsL s.data.toList)) := by
  obtain ⟨i0, hi0, hz0, hz1, hz2⟩ := info_parts info_u8
  by_cases hs0 : s.data.toList = []
  · have HR := Lib.hid (show grsL s.data.toList = some [] from if_pos hs0)
    have hne : s.toList.isEmpty = true := by rw [ByteArray.toList_eq, hs0]; rfl
    clear hs0
    go_enter Tryd.func35, Tryd.ntmps35
    go_wp2
    refine bodyPost_ret (v := .tuple #[.slice none 0 0, .bool true]) (by simp [*, results, Tryd.results35, go_sem] <;> rfl) rfl ⟨.slice none 0 0, by rw [HR.out]; rfl, by rw [HR.out]; exact World.ownsRow_nil _ _ _ _, ?_⟩
    go_grown
  have hne : s.toList.isEmpty = false := by rw [ByteArray.toList_eq]; cases h : s.data.toList with | nil => exact absurd h hs0 | cons a b => rfl
  have hS : grsL s.data.toList = bytesGo two (partsL 58 8 s.data.toList) [] := if_neg hs0
  clear hs0
  go_enter Tryd.func35, Tryd.ntmps35
  go_wp2_with fail
  refine (tsplit_any s 58 8 (by omega) (by omega) w he hs).mono ?_
  rintro e W1 ⟨P, cap, rfl, hP, hPn, hPc, hcell, hsz, hB1⟩
  have HP := Lib.hid hP
  have Hcell := Lib.hid hcell
  clear hP hcell hne
  go_wp2_with fail
  go_loopw [4, 14] (fun l i wr => ∃ (k : Nat) (acc : List Int), k ≤ P.length ∧ i = .int .i64 k ∧ acc.length = 2 * k ∧ wr.ownsRow W1.heap.size 5 1 l acc.length (u8s acc) ∧ Below W1.heap.size W1 wr ∧ bytesGo two ((partsL 58 8 s.data.toList).drop k) acc = bytesGo two (partsL 58 8 s.data.toList) []) (fun _ i _ => P.length - (intOf i).toNat)
  case atStart => exact ⟨0, [], by omega, rfl, rfl, World.ownsRow_nil _ _ _ _, Below.refl _ _, rfl⟩
  case round =>
    obtain ⟨k, acc, hk, rfl, hal, hown, hB, hgo⟩ := hrel
    have Hown := Lib.hid hown
    have Hge := Lib.hid (own_ge hown)
    have hbase := hB.size
    clear hown
    by_cases hlt : k < P.length
    · have hlt' : (k : Int) < (P.length : Int) := by omega
      obtain ⟨x, hx⟩ : ∃ x, P[k]? = some x := ⟨_, List.getElem?_eq_getElem (by omega)⟩
      have hck := (hB.cell (p := ⟨w.heap.size, k, none⟩) hsz).trans (Hcell.out k x hx)
      have hxp : (partsL 58 8 s.data.toList).drop k = x.data.toList :: (partsL 58 8 s.data.toList).drop (k + 1) := by
        rw [← HP.out, List.drop_eq_getElem_cons (by simp; omega)]
        congr 1
        have := (List.getElem?_eq_some_iff.1 hx).2
        simp [this]
      rw [hxp] at hgo
      clear hxp
      have cn := group_any x wr
      cases hN : grpL x.data.toList with
      | none =>
        have hone : two x.data.toList = none := by unfold two; rw [hN]; rfl
        rw [bytesGo_none hone] at hgo
        have HR := Lib.hid (show grsL s.data.toList = none by rw [hS, ← hgo])
        rw [hN] at cn
        clear hgo hS
        go_wp2_with (go_at_call 59; refine cn.mono ?_; rintro e w2 ⟨rfl, hw2⟩)
        have bX : Below w.heap.size w w2 := (hB1.trans (hB.mono (Nat.le_of_lt hsz))).trans (hw2.mono (by omega))
        refine bodyPost_ret (v := .tuple #[.slice none 0 0, .bool false]) (by simp [*, results, Tryd.results35, go_sem] <;> rfl) rfl ⟨.slice none 0 0, by rw [HR.out]; rfl, by rw [HR.out]; exact World.ownsRow_nil _ _ _ _, bX⟩
      | some n =>
        have hone : two x.data.toList = some [n / 256, n % 256] := by unfold two; rw [hN]; rfl
        rw [bytesGo_some hone] at hgo
        obtain ⟨n0, n1⟩ := grpL_bd hN
        have hq0 : 0 ≤ n / 256 := by omega
        have hq1 : n / 256 < 256 := by omega
        rw [hN] at cn
        clear hone
        go_wp2_with fail
        refine cn.mono ?_
        rintro e w2 ⟨rfl, hw2⟩
        have hz2w := hw2.size
        have Hown2 := Lib.hid (own_keep Hown.out hw2)
        go_wp2_with (
          at_builtin
          refine wpList_append_own _ rfl (.tmp 25) (.tmp 31) _ rfl W1.heap.size 5 i0 _ 1 1 Tryd.underlying36 hi0 hz0 hz1 hz2 rfl (by omega) _ _ _ rfl (Hown2.out.alloc _) ⟨w2.heap.size, 0, none⟩ 2 2 [.int .u8 (n / 256), .int .u8 (n % 256)] rfl rfl (World.news_of_block (cs := #[.int .u8 (n / 256), .int .u8 (n % 256)]) (t := 5) (fr := (0, 0)) (heap_alloc_new w2 _)) (by simp [Value.oneCell']) (by simp only [maxLen]; omega) (by omega) (by simp; omega) ?_
          intro v1 w3 hown1 hg1 hat1
          have H1 := Lib.hid hown1
          have G1 := Lib.hid hg1
          clear hown1 hg1 hat1
          )
        have bX : Below W1.heap.size W1 w3 := ((hB.trans (hw2.mono hbase)).alloc (by omega) _).grown G1.out (by simp; omega) Hge.out
        have hal2 : (acc ++ [n / 256, n % 256]).length = 2 * (k + 1) := by simp; omega
        refine ⟨⟨k + 1, acc ++ [n / 256, n % 256], by omega, by go_num, hal2, ?_, bX, hgo⟩, by simp [intOf]; omega⟩
        rw [List.length_append, u8s_append]
        exact H1.out
    · obtain rfl : k = P.length := by omega
      have hlt' : ¬ ((P.length : Nat) : Int) < (P.length : Int) := by omega
      rw [List.drop_eq_nil_of_le (by rw [← HP.out, List.length_map]; omega)] at hgo
      have HR := Lib.hid (show grsL s.data.toList = some acc by rw [hS, ← hgo]; rfl)
      clear hgo hS
      go_wp2
      refine bodyPost_ret (v := .tuple #[u4, .bool true]) (by simp [*, results, Tryd.results35, go_sem] <;> rfl) rfl ⟨u4, by rw [HR.out]; rfl, by rw [HR.out]; exact Hown.out.mono (Nat.le_of_lt hsz), hB1.trans (hB.mono (Nat.le_of_lt hsz))⟩

end Go.Proofs.YtfebhfghjdedhaaDoor

namespace Go.Proofs.YtfebhfghjdedhaaDoor
open Go.RowKit

section
variable {P : Program} {ops : Array Oper} {md : Region.Mode} {C : World → Prop}

def sink1B (md : Region.Mode) (ops : Array Oper) (n : Nat) : Bool :=
  (List.range n).all fun i => i == 0 || (List.range (n + 1)).any fun j => decide (i < j) && Region.waitsFor md ops j i
structure Inv1 (md : Region.Mode) (ops : Array Oper) (n : Nat) (listed : Array Bool) : Prop where
  head : HeadInv md ops n listed
  zero : listed.getD 0 false = true
theorem Inv1.set {n i : Nat} {listed : Array Bool} (inv : Inv1 md ops n listed) (hi : i ∈ Region.ready md ops listed) (hin : i < n) : Inv1 md ops n (listed.setIfInBounds i true) :=
  ⟨inv.head.set hi hin, getD_set_true inv.zero⟩
theorem waits1 {n : Nat} {listed : Array Bool} (hs : sink1B md ops n = true) (hc : Region.chainB md ops n = true) (inv : Inv1 md ops n listed) :
    ∀ (d i : Nat), n - i = d → i < n → listed.getD i true = false → ∀ t, n ≤ t → t ∉ Region.ready md ops listed := by
  intro d
  induction d using Nat.strongRecOn with
  | _ d ih =>
    intro i hd hi hun t ht hr
    obtain ⟨_, ot, hot, hall⟩ := mem_ready.1 hr
    have htlt : t < ops.size := (Array.getElem?_eq_some_iff.1 hot).1
    have hi0 : i ≠ 0 := by
      intro e
      subst e
      have := inv.zero
      rw [getD_both hun] at this
      cases this
    by_cases htn : t = n
    · subst htn
      have h1 := List.all_eq_true.1 hs i (List.mem_range.2 hi)
      simp only [Bool.or_eq_true, beq_iff_eq] at h1
      obtain ⟨j, hj, hj2⟩ := List.any_eq_true.1 (h1.resolve_left hi0)
      simp only [Bool.and_eq_true, decide_eq_true_eq] at hj2
      obtain ⟨oj, hoj, e, he, hb, hon⟩ := Region.waitsFor_spec hj2.2
      have hjle : j ≤ t := by have := List.mem_range.1 hj; omega
      by_cases hjt : j = t
      · subst hjt
        have : oj = ot := Option.some.inj (hoj.symm.trans hot)
        subst this
        have h2 := hall e he hb
        rw [hon, getD_both hun] at h2
        cases h2
      · cases hl : listed.getD j false with
        | true =>
          have h2 := inv.head.closed j oj hoj hl e he hb
          rw [hon, getD_both hun] at h2
          cases h2
        | false =>
          have hjs : j < listed.size := by rw [inv.head.size]; omega
          exact ih (t - j) (by omega) j rfl (by omega) (getD_in hjs hl) t (Nat.le_refl _) hr
    · have h1 := List.all_eq_true.1 hc t (List.mem_range.2 htlt)
      simp only [Bool.or_eq_true, decide_eq_true_eq] at h1
      rcases h1 with h1 | h1
      · omega
      · obtain ⟨o', ho', e, he, hb, hon⟩ := Region.waitsFor_spec h1
        have : o' = ot := Option.some.inj (ho'.symm.trans hot)
        subst this
        have h2 := hall e he hb
        rw [hon, getD_both (inv.head.tail (t - 1) (by omega) (by omega))] at h2
        cases h2

theorem AnyHead.first1 {n i : Nat} {oi : Oper} {v : Value} {L : Array Bool → Act → Prop} (hi : ops[i]? = some oi) (hsel : ∀ (j : Nat) (o : Oper) cs b, ops[j]? = some o → o.op ≠ .select cs b)
    (hs : sink1B md ops n = true) (hc : Region.chainB md ops n = true) (hin : i < n) (hL : ∀ done a, L done a → ∀ j ∈ Region.ready md ops done, n ≤ j) (f : Nat) :
    ∀ (done : Array Bool) (a : Act), Inv1 md ops n done →
      (∀ j oj, ops[j]? = some oj → j ≠ i → done.getD j true = false → (∀ e ∈ oj.after, Region.binds md e = true → e.on ≠ i) → oi.apart ops oj = true) →
      i ∈ Region.ready md ops done → YieldsIn P ops C oi v a → AnyHead P md ops C n L f (done.setIfInBounds i true) (a.put oi.dst v) → AnyHead P md ops C n L (f + 1) done a := by
  induction f with
  | zero =>
    intro done a inv _ hr hy H
    refine ⟨List.ne_nil_of_mem hr, fun j hj => ?_⟩
    rcases Nat.lt_or_ge j n with hjn | hjn
    · refine ⟨hjn, ?_⟩
      by_cases e : j = i
      · subst e
        exact hy.qOp hi H
      · exact absurd (hL _ _ H j (ready_mono hj e)) (by omega)
    · exact absurd hj (waits1 hs hc inv _ i rfl hin (mem_ready.1 hr).1 j hjn)
  | succ f ih =>
    intro done a inv hfree hr hy H
    refine ⟨List.ne_nil_of_mem hr, fun j hj => ?_⟩
    rcases Nat.lt_or_ge j n with hjn | hjn
    · refine ⟨hjn, ?_⟩
      by_cases e : j = i
      · subst e
        exact hy.qOp hi H
      · obtain ⟨hjun, oj, hoj, hall⟩ := mem_ready.1 hj
        have hno : ∀ e ∈ oj.after, Region.binds md e = true → e.on ≠ i := by
          intro e he hb heq
          have h1 := hall e he hb
          rw [heq, getD_both (mem_ready.1 hr).1] at h1
          cases h1
        have h2 := qOp_put hoj (hfree j oj hoj e hjun hno) (fun cs b => hsel i oi cs b hi) (fun cs b => hsel j oj cs b hoj) hy (H.2 j (ready_mono hj e)).2
        refine qOp_mono (fun a' h3 => ih _ a' (inv.set hj hjn) (fun k ok hk hki hun hno' => hfree k ok hk hki ?_ hno') (ready_mono hr (Ne.symm e)) h3.1 ?_) h2
        · by_cases hjk : j = k
          · subst hjk; exact hjun
          · rwa [getD_set_ne true hjk] at hun
        · rw [Array.setIfInBounds_comm _ _ e]
          exact h3.2
    · exact absurd hj (waits1 hs hc inv _ i rfl hin (mem_ready.1 hr).1 j hjn)

theorem AnyHead.lex1 {n g : Nat} {R : Act → Prop} (hsel : Region.noSelect ops = true) (hs : sink1B md ops n = true) (hc : Region.chainB md ops n = true) (l : List Oper) :
    ∀ (k : Nat) (done : Array Bool) (a : Act), (∀ j, j < l.length → l[j]? = ops[k + j]?) → k + l.length = n → Inv1 md ops n done → Region.lexHead md ops g l.length k done = true →
      wpQuiet P ops C R l a → AnyHead P md ops C n (fun done' a' => Region.seqB md ops g n done' = true ∧ R a') l.length done a := by
  induction l with
  | nil =>
    intro k done a _ hk _ hB h
    obtain rfl : k = n := by simpa using hk
    exact ⟨by simpa [Region.lexHead] using hB, h⟩
  | cons o l ih =>
    intro k done a hl hk inv hB h
    have h0 : ops[k]? = some o := by simpa using (hl 0 (by simp)).symm
    simp only [List.length_cons, Region.lexHead, Bool.and_eq_true] at hB
    simp only [List.length_cons] at hk
    have hr : k ∈ Region.ready md ops done := by simpa using hB.1.1
    have hq : qOp P ops C k (wpQuiet P ops C R l) a := by unfold qOp; simp only [h0]; exact h
    obtain ⟨v, hy, hK⟩ := yieldsIn_of_qOp h0 hq
    refine AnyHead.first1 h0 (Region.noSelect_spec hsel) hs hc (by omega) (fun d' a' h' => seqB_ready h'.1) l.length done a inv (Region.free_spec h0 hB.1.2) hr hy ?_
    refine ih (k + 1) _ _ (fun j hj => ?_) (by omega) (inv.set hr (by omega)) hB.2 hK
    have := hl (j + 1) (by simp; omega)
    simpa [Nat.add_assoc, Nat.add_comm 1 j] using this

/-- What can be reckoned of the region. -/
def tail1B (ops : Array Oper) (n : Nat) : Bool :=
  Region.noSelect ops && decide (n < ops.size) && decide (1 ≤ n) && sink1B .any ops n && Region.chainB .any ops n && Region.free .any ops (Array.replicate ops.size false) 0 && (Region.ready .any ops (Array.replicate ops.size false)).contains 0 &&
    ((ops[0]?).map fun o => o.after.isEmpty).getD false && Region.lexHead .any ops (ops.size - n) (n - 1) 1 ((Array.replicate ops.size false).setIfInBounds 0 true)

theorem region_head_tail1 {id : Nat} {Q : Exit → Act → World → Prop} {a : Act} {w : World} {o0 : Oper} {l : List Oper} (n : Nat) (v : Value) (hm : P.follows .mixedOrders = true) (hB : tail1B (o0 :: l).toArray n = true) (hC : C w.drew)
    (hy : Yields P (o0 :: l).toArray o0 v a) (hQ : ∀ c a w, Q (.panic c) (a.put o0.dst v) w → Q (.panic c) a w)
    (h : wpQuiet P (o0 :: l).toArray C (fun a' => ∀ w', C w' → wpList P (o0 :: l).toArray Q (l.drop (n - 1)) a' w') (l.take (n - 1)) (a.put o0.dst v)) : (Code.region id (o0 :: l).toArray true).wp P Q a w := by
  simp only [tail1B, Bool.and_eq_true, decide_eq_true_eq] at hB
  obtain ⟨⟨⟨⟨⟨⟨⟨⟨hsel, hn⟩, hn1⟩, hs⟩, hc⟩, hfr⟩, hrd⟩, haf⟩, hlex⟩ := hB
  generalize hops : (o0 :: l).toArray = ops at *
  have hsz : ops.size = l.length + 1 := by rw [← hops]; simp
  have h00 : ops[0]? = some o0 := by rw [← hops]; simp
  have ht : (l.take (n - 1)).length = n - 1 := by simp; omega
  have hd : (l.drop (n - 1)).length = ops.size - n := by simp; omega
  have inv : Inv1 .any ops n ((Array.replicate ops.size false).setIfInBounds 0 true) := by
    refine ⟨⟨by simp, fun j oj hj hl e he hb => ?_, fun t ht' ht2 => ?_⟩, ?_⟩
    · by_cases hj0 : 0 = j
      · subst hj0
        obtain rfl : oj = o0 := Option.some.inj (hj.symm.trans h00)
        rw [h00] at haf
        simp at haf
        rw [haf] at he
        simp at he
      · rw [getD_set_ne false hj0, getD_replicate_false] at hl
        cases hl
    · rw [getD_set_ne true (by omega)]
      exact getD_in (by simpa using ht2) (getD_replicate_false _ _)
    · simp
      omega
  have H := AnyHead.lex1 (md := .any) (g := ops.size - n) hsel hs hc (l.take (n - 1)) 1 _ (a.put o0.dst v) (fun j hj => by
    rw [ht] at hj
    rw [← hops]
    simp [hj, Nat.add_comm 1 j]) (by rw [ht]; omega) inv (by rw [ht]; exact hlex) h
  refine wp_region_any hm ?_
  have K := AnyHead.any (Q := Q) (g := ops.size - n) (fun done a' w' hw' hL => by
    have := wpAny_of_seq (md := .any) (Q' := Q) (l.drop (n - 1)) n done a' w' (fun j => by
      rw [← hops, show n + j = (n - 1 + j) + 1 by omega]
      simp [List.getElem?_drop]) (by rw [hd]; exact hL.1) (hL.2 w' hw')
    rwa [hd] at this) _ _ _ w.drew hC H
  rw [ht] at K
  have K2 := wpAny_take (md := .any) (Q := Q) h00 hsel hfr hrd hQ hy K
  rw [show n - 1 + (ops.size - n) + 1 = ops.size by omega] at K2
  exact K2
end

theorem region_tail1 {P : Program} {id : Nat} {Q : Exit → Act → World → Prop} {a : Act} {w : World} {o0 : Oper} {l : List Oper} (n B : Nat) (v : Value) (hm : P.follows .mixedOrders = true) (hB : tail1B (o0 :: l).toArray n = true)
    (hy : Yields P (o0 :: l).toArray o0 v a) (hQ : ∀ c a w, Q (.panic c) (a.put o0.dst v) w → Q (.panic c) a w)
    (h : wpQuiet P (o0 :: l).toArray (fun w' => ∃ x : Later B w, w' = x.at) (fun a' => ∀ x : Later B w, wpList P (o0 :: l).toArray Q (l.drop (n - 1)) a' x.at) (l.take (n - 1)) (a.put o0.dst v)) : (Code.region id (o0 :: l).toArray true).wp P Q a w :=
  region_head_tail1 (C := fun w' => ∃ x : Later B w, w' = x.at) n v hm hB ⟨⟨w.drew, (Below.refl _ _).drew⟩, rfl⟩ hy hQ (by
    have e : (fun a' => ∀ w', (∃ x : Later B w, w' = x.at) → wpList P (o0 :: l).toArray Q (l.drop (n - 1)) a' w') = (fun a' => ∀ x : Later B w, wpList P (o0 :: l).toArray Q (l.drop (n - 1)) a' x.at) := by
      funext a'
      apply propext
      exact ⟨fun k x => k _ ⟨x, rfl⟩, fun k w' ⟨x, hx⟩ => hx ▸ k x⟩
    rw [e]
    exact h)

end Go.Proofs.YtfebhfghjdedhaaDoor

namespace Go.Proofs.YtfebhfghjdedhaaDoor
open Go.RowKit
set_option maxRecDepth 100000

theorem info_str : (Tryd.prog.info? 9).map (fun i => (i.zero, i.size, i.bytes)) = some (some (.string ByteArray.empty), 1, 16) := by kernel_rfl
def strv (l : List (List UInt8)) : List Value := l.map fun x => .string ⟨x.toArray⟩
theorem strv_append (a b : List (List UInt8)) : strv (a ++ b) = strv a ++ strv b := List.map_append
theorem strv_len (a : List (List UInt8)) : (strv a).length = a.length := List.length_map ..
/-- The first k bytes as numbers. -/
def numTs (bs : Nat → Int) (k : Nat) : List (List UInt8) := (List.range k).map fun j => Lib.itoa (bs j)
theorem numTs_succ (bs : Nat → Int) (k : Nat) : numTs bs (k + 1) = numTs bs k ++ [Lib.itoa (bs k)] := by
  unfold numTs
  rw [List.range_succ, List.map_append]
  rfl
theorem numTs_len (bs : Nat → Int) (k : Nat) : (numTs bs k).length = k := by simp [numTs]

set_option maxHeartbeats 2000000 in
theorem numberTexts_any (g n c : Nat) (hn : n ≤ 16) (bs : Nat → Int) (hbs : ∀ j, j < n → 0 ≤ bs j ∧ bs j < 256) (w : World) (he : Env w) (hg : g < w.heap.size) (hcell : ∀ j, j < n → w.cell? ⟨g, j, none⟩ = some (.int .u8 (bs j))) :
    Calls Tryd.prog 28 #[.slice (some ⟨g, 0, none⟩) n c] w fun e w' => ∃ v, e = .returned v ∧ w'.ownsRow w.heap.size 9 1 v n (strv (numTs bs n)) ∧ Below w.heap.size w w' := by
  obtain ⟨i0, hi0, hz0, hz1, hz2⟩ := info_parts info_str
  have Hbs := Lib.hid hbs
  have Hcell := Lib.hid hcell
  clear hbs hcell
  go_enter Tryd.func28, Tryd.ntmps28
  go_wp2_with fail
  go_loopw [3, 8] (fun l i wr => ∃ k : Nat, k ≤ n ∧ i = .int .i64 k ∧ wr.ownsRow w.heap.size 9 1 l k (strv (numTs bs k)) ∧ Below w.heap.size w wr) (fun _ i _ => n - (intOf i).toNat)
  case atStart => exact ⟨0, by omega, rfl, World.ownsRow_nil _ _ _ _, Below.refl _ _⟩
  case round =>
    obtain ⟨k, hk, rfl, hown, hB⟩ := hrel
    have Hown := Lib.hid hown
    have Hge := Lib.hid (own_ge hown)
    have hbase := hB.size
    clear hown
    by_cases hlt : k < n
    · have hlt' : (k : Int) < (n : Int) := by omega
      obtain ⟨b0, b1⟩ := Hbs.out k hlt
      have hck := (hB.cell (p := ⟨g, k, none⟩) hg).trans (Hcell.out k hlt)
      have cn := itoa_any (bs k) (by omega) (by omega) wr (he.go hB)
      go_wp2_with fail
      refine cn.mono ?_
      rintro e w2 ⟨rfl, hw2⟩
      have hz2w := hw2.size
      have Hown2 := Lib.hid (own_keep Hown.out hw2)
      go_wp2_with (
        at_builtin
        refine wpList_append_own _ rfl (.tmp 12) (.tmp 16) _ rfl w.heap.size 9 i0 _ 1 16 Tryd.underlying49 hi0 hz0 hz1 hz2 rfl (by omega) _ _ _ rfl (Hown2.out.alloc _) ⟨w2.heap.size, 0, none⟩ 1 1 [.string ⟨(Lib.itoa (bs k)).toArray⟩] rfl rfl (World.news_of_block (cs := #[.string ⟨(Lib.itoa (bs k)).toArray⟩]) (t := 9) (fr := (0, 0)) (heap_alloc_new w2 _)) (by simp [Value.oneCell']) (by simp only [maxLen]; omega) (by omega) (by simp; omega) ?_
        intro v1 w3 hown1 hg1 hat1
        have H1 := Lib.hid hown1
        have G1 := Lib.hid hg1
        clear hown1 hg1 hat1
        )
      have bX : Below w.heap.size w w3 := ((hB.trans (hw2.mono hbase)).alloc (by omega) _).grown G1.out (by simp; omega) Hge.out
      refine ⟨⟨k + 1, by omega, by go_num, ?_, bX⟩, by simp [intOf]; omega⟩
      rw [numTs_succ, strv_append]
      exact H1.out
    · obtain rfl : k = n := by omega
      have hlt' : ¬ (k : Int) < (k : Int) := by omega
      go_wp2
      go_ret
      exact ⟨u3, rfl, Hown.out, hB⟩

/-- The first k groups, written. -/
def grpTs (bs : Nat → Int) (k : Nat) : List (List UInt8) := (List.range k).map fun j => hexL (bs (2 * j) * 256 + bs (2 * j + 1)).toNat
theorem grpTs_succ (bs : Nat → Int) (k : Nat) : grpTs bs (k + 1) = grpTs bs k ++ [hexL (bs (2 * k) * 256 + bs (2 * k + 1)).toNat] := by
  unfold grpTs
  rw [List.range_succ, List.map_append]
  rfl
theorem grpTs_len (bs : Nat → Int) (k : Nat) : (grpTs bs k).length = k := by simp [grpTs]
theorem or256 (a b : Int) (a0 : 0 ≤ a) (a1 : a < 256) (b0 : 0 ≤ b) (b1 : b < 256) : bits .or .u64 (a * 256) b = a * 256 + b := by
  obtain ⟨x, rfl⟩ : ∃ x : Nat, a = x := ⟨a.toNat, by omega⟩
  obtain ⟨y, rfl⟩ : ∃ y : Nat, b = y := ⟨b.toNat, by omega⟩
  have e1 : (x : Int) * 256 = u (BitVec.ofNat 64 (x * 256)) := by
    unfold u
    rw [BitVec.toNat_ofNat]
    omega
  have e2 : (y : Int) = u (BitVec.ofNat 64 y) := by
    unfold u
    rw [BitVec.toNat_ofNat]
    omega
  rw [e1, e2, u_or]
  unfold u
  rw [BitVec.toNat_or, BitVec.toNat_ofNat, BitVec.toNat_ofNat, Nat.mod_eq_of_lt (by omega), Nat.mod_eq_of_lt (by omega)]
  have h := Nat.shiftLeft_add_eq_or_of_lt (show y < 2 ^ 8 by omega) x
  rw [Nat.shiftLeft_eq, show (2 : Nat) ^ 8 = 256 from rfl] at h
  rw [← h]
  omega
theorem formatUint_16i (X Y : Int) (h : X = Y) (h0 : 0 ≤ Y) (h1 : Y < 65536) (w : World) (he : Env w) :
    Calls Tryd.prog 50 #[.int .u64 X, .int .i64 16] w fun e w' => e = .returned (.string ⟨(hexL Y.toNat).toArray⟩) ∧ Below w.heap.size w w' := by
  subst h
  have := formatUint_16 X.toNat (by omega) w he
  rw [show ((X.toNat : Nat) : Int) = X by omega] at this
  exact this

set_option maxHeartbeats 2000000 in
theorem groupTexts_any (g c : Nat) (bs : Nat → Int) (hbs : ∀ j, j < 16 → 0 ≤ bs j ∧ bs j < 256) (w : World) (he : Env w) (hg : g < w.heap.size) (hcell : ∀ j, j < 16 → w.cell? ⟨g, j, none⟩ = some (.int .u8 (bs j))) :
    Calls Tryd.prog 26 #[.slice (some ⟨g, 0, none⟩) 16 c] w fun e w' => ∃ v, e = .returned v ∧ w'.ownsRow w.heap.size 9 1 v 8 (strv (grpTs bs 8)) ∧ Below w.heap.size w w' := by
  obtain ⟨i0, hi0, hz0, hz1, hz2⟩ := info_parts info_str
  have Hbs := Lib.hid hbs
  have Hcell := Lib.hid hcell
  clear hbs hcell
  go_enter Tryd.func26, Tryd.ntmps26
  go_wp2_with fail
  go_loopw [3, 4] (fun l i wr => ∃ k : Nat, k ≤ 8 ∧ i = .int .i64 (2 * (k : Int)) ∧ wr.ownsRow w.heap.size 9 1 l k (strv (grpTs bs k)) ∧ Below w.heap.size w wr) (fun _ i _ => 16 - (intOf i).toNat)
  case atStart => exact ⟨0, by omega, rfl, World.ownsRow_nil _ _ _ _, Below.refl _ _⟩
  case round =>
    obtain ⟨k, hk, rfl, hown, hB⟩ := hrel
    have Hown := Lib.hid hown
    have Hge := Lib.hid (own_ge hown)
    have hz := hB.size
    clear hown
    obtain ⟨W, rfl⟩ : ∃ W, W = wr := ⟨_, rfl⟩
    by_cases hlt : k < 8
    · have hlt' : 2 * (k : Int) < 16 := by omega
      obtain ⟨a0, a1⟩ := Hbs.out (2 * k) (by omega)
      obtain ⟨b0, b1⟩ := Hbs.out (2 * k + 1) (by omega)
      have hca := (hB.cell (p := ⟨g, 2 * k, none⟩) hg).trans (Hcell.out (2 * k) (by omega))
      have hcb := (hB.cell (p := ⟨g, 2 * k + 1, none⟩) hg).trans (Hcell.out (2 * k + 1) (by omega))
      have hgW : g < W.heap.size := by omega
      have La := fun x : Later W.heap.size W => (x.cell (p := ⟨g, 2 * k, none⟩) hgW).trans hca
      have Lb := fun x : Later W.heap.size W => (x.cell (p := ⟨g, 2 * k + 1, none⟩) hgW).trans hcb
      have HE := fun x : Later W.heap.size W => Lib.hid ((he.go hB).go x.below)
      have hor := or256 _ _ a0 a1 b0 b1
      have hor0 : 0 ≤ bs (2 * k) * 256 + bs (2 * k + 1) := by omega
      have hor1 : bs (2 * k) * 256 + bs (2 * k + 1) < 65536 := by omega
      go_wp2_with fail
      refine region_tail1 15 W.heap.size u3 (by kernel_rfl) (by kernel_rfl) (.inl ⟨rfl, fun _ => by simp [go_sem]⟩) (fun _ _ _ h => h) ?_
      simp only [Nat.reduceSub, List.take_succ_cons, List.take_zero, List.drop_succ_cons, List.drop_zero, Act.put, List.setIfInBounds_toArray, List.set_cons_succ, List.set_cons_zero]
      repeat (go_big_quiet_step ((go_at_call 50; exact later_of (Nat.le_refl _) (formatUint_16i _ _ rfl hor0 hor1 _ (HE _).out))))
      refine wpQuiet_nil ?_
      intro x
      have hx : Below w.heap.size w x.at := hB.trans (x.below.mono hz)
      have Hown2 := Lib.hid (own_keep Hown.out x.below)
      have hzx := x.below.size
      clear La Lb HE hca hcb Hown hgW
      generalize x.at = w2 at *
      clear x
      go_wp2_with (
        at_builtin
        refine wpList_append_own _ rfl (.tmp 11) (.tmp 26) _ rfl w.heap.size 9 i0 _ 1 16 Tryd.underlying49 hi0 hz0 hz1 hz2 rfl (by omega) _ _ _ rfl (Hown2.out.alloc _) ⟨w2.heap.size, 0, none⟩ 1 1 [.string ⟨(hexL (bs (2 * k) * 256 + bs (2 * k + 1)).toNat).toArray⟩] rfl rfl (World.news_of_block (cs := #[.string ⟨(hexL (bs (2 * k) * 256 + bs (2 * k + 1)).toNat).toArray⟩]) (t := 9) (fr := (0, 0)) (heap_alloc_new w2 _)) (by simp [Value.oneCell']) (by simp only [maxLen]; omega) (by omega) (by simp; omega) ?_
        intro v1 w3 hown1 hg1 hat1
        have H1 := Lib.hid hown1
        have G1 := Lib.hid hg1
        clear hown1 hg1 hat1
        )
      have bX : Below w.heap.size w w3 := (hx.alloc (by omega) _).grown G1.out (by simp; omega) Hge.out
      refine ⟨⟨k + 1, by omega, by go_num, ?_, bX⟩, by simp [intOf]; omega⟩
      rw [grpTs_succ, strv_append]
      exact H1.out
    · obtain rfl : k = 8 := by omega
      have hlt' : ¬ 2 * ((8 : Nat) : Int) < 16 := by omega
      go_wp2
      go_ret
      exact ⟨u3, rfl, Hown.out, hB⟩

end Go.Proofs.YtfebhfghjdedhaaDoor

namespace Go.Proofs.YtfebhfghjdedhaaDoor
open Go.RowKit
set_option maxRecDepth 100000

/-- How many stand first that are true. -/
def runL : List Bool → Nat
  | true :: t => runL t + 1
  | _ => 0
/-- The longest run: where it begins, where it is over; the first one of several. -/
def bestGo : List Bool → Nat → Nat × Nat → Nat × Nat
  | [], _, p => p
  | b :: Z, i, p => bestGo Z (i + 1) (if p.2 - p.1 < runL (b :: Z) then (i, i + runL (b :: Z)) else p)
def isZ (l : List UInt8) : Bool := l == [48]
def zl (G : List (List UInt8)) : List Bool := G.map isZ
theorem runL_le : ∀ Z : List Bool, runL Z ≤ Z.length
  | [] => by simp [runL]
  | true :: t => by have := runL_le t; simp [runL]; omega
  | false :: t => by simp [runL]
theorem runL_step (Z : List Bool) (j : Nat) (h : Z[j]? = some true) : runL (Z.drop j) = runL (Z.drop (j + 1)) + 1 := by
  obtain ⟨hj, e⟩ := List.getElem?_eq_some_iff.1 h
  rw [List.drop_eq_getElem_cons hj, e]
  rfl
theorem runL_stop (Z : List Bool) (j : Nat) (h : Z[j]? = some false) : runL (Z.drop j) = 0 := by
  obtain ⟨hj, e⟩ := List.getElem?_eq_some_iff.1 h
  rw [List.drop_eq_getElem_cons hj, e]
  rfl
theorem runL_end (Z : List Bool) (j : Nat) (h : Z.length ≤ j) : runL (Z.drop j) = 0 := by
  rw [List.drop_eq_nil_of_le h]
  rfl
theorem bestGo_step (Z : List Bool) (i : Nat) (p : Nat × Nat) (h : i < Z.length) : bestGo (Z.drop i) i p = bestGo (Z.drop (i + 1)) (i + 1) (if p.2 - p.1 < runL (Z.drop i) then (i, i + runL (Z.drop i)) else p) := by
  rw [List.drop_eq_getElem_cons h]
  rfl

set_option maxHeartbeats 2000000 in
theorem longestRun_any (g c : Nat) (G : List (List UInt8)) (hn : G.length = 8) (w : World) (hcell : ∀ j x, G[j]? = some x → w.cell? ⟨g, j, none⟩ = some (.string ⟨x.toArray⟩)) :
    Calls Tryd.prog 49 #[.slice (some ⟨g, 0, none⟩) 8 c] w fun e w' => e = .returned (.tuple #[.int .i64 (bestGo (zl G) 0 (0, 0)).1, .int .i64 (bestGo (zl G) 0 (0, 0)).2]) ∧ w' = w := by
  have Hcell := Lib.hid hcell
  have hzn : (zl G).length = 8 := by simp [zl, hn]
  clear hcell
  go_enter Tryd.func49, Tryd.ntmps49
  go_wp2_with fail
  go_loopw [2, 3, 8] (fun f t i wr => ∃ (k a b : Nat), k ≤ 8 ∧ i = .int .i64 k ∧ f = .int .i64 a ∧ t = .int .i64 b ∧ a ≤ b ∧ b ≤ 8 ∧ bestGo ((zl G).drop k) k (a, b) = bestGo (zl G) 0 (0, 0) ∧ wr = w) (fun _ _ i _ => 8 - (intOf i).toNat)
  case atStart => exact ⟨0, 0, 0, by omega, rfl, rfl, rfl, by omega, by omega, rfl, rfl⟩
  case round =>
    obtain ⟨k, a, b, hk, rfl, rfl, rfl, hab, hb8, hgo, rfl⟩ := hrel
    by_cases hlt : k < 8
    · have hlt' : (k : Int) < 8 := by omega
      rw [bestGo_step _ _ _ (by omega)] at hgo
      have hrl := runL_le ((zl G).drop k)
      rw [List.length_drop] at hrl
      obtain ⟨R, hR⟩ : ∃ R, R = runL ((zl G).drop k) := ⟨_, rfl⟩
      rw [← hR] at hgo hrl
      have HR := Lib.hid hR
      have Hgo := Lib.hid hgo
      clear hgo hR
      go_wp2_with fail
      go_loopw [5] (fun v wx => ∃ m : Nat, m ≤ R ∧ v = .int .i64 ((k : Int) + (m : Int)) ∧ m + runL ((zl G).drop (k + m)) = R ∧ wx = wr) (fun v _ => 8 - (intOf v).toNat)
      case atStart => exact ⟨0, Nat.zero_le _, by simp, by rw [Nat.zero_add, Nat.add_zero]; exact HR.out.symm, rfl⟩
      case round =>
        obtain ⟨m, hm, rfl, hrun, rfl⟩ := hrel
        by_cases hend : k + m < 8
        · have hend' : (k : Int) + (m : Int) < 8 := by omega
          obtain ⟨x, hx⟩ : ∃ x, G[k + m]? = some x := ⟨_, List.getElem?_eq_getElem (by omega)⟩
          have hck := Hcell.out (k + m) x hx
          have hZ : (zl G)[k + m]? = some (isZ x) := by unfold zl; rw [List.getElem?_map, hx]; rfl
          have hcast : ((k : Int) + (m : Int)).toNat = k + m := by omega
          have hge0 : 0 ≤ (k : Int) + (m : Int) := by omega
          cases hz : isZ x with
          | true =>
            rw [hz] at hZ
            rw [runL_step _ _ hZ] at hrun
            have hx1 : x = [48] := by unfold isZ at hz; simpa using hz
            subst hx1
            clear hZ hz hx
            go_wp2_with fail
            refine ⟨⟨m + 1, by omega, by congr 1, by rw [← Nat.add_assoc]; omega, trivial⟩, by simp [intOf]; omega⟩
          | false =>
            rw [hz] at hZ
            rw [runL_stop _ _ hZ] at hrun
            obtain rfl : R = m := by omega
            have hx2 : (x == [48]) = false := hz
            clear hZ hz hx
            by_cases hbt : b - a < R
            · have hb1 : (b : Int) - (a : Int) < (R : Int) := by omega
              have hb2 : (b : Int) - (a : Int) < (k : Int) + (R : Int) - (k : Int) := by omega
              have Hgo2 := Lib.hid Hgo.out
              rw [if_pos hbt] at Hgo2
              clear Hgo
              go_wp2_with fail
              refine ⟨⟨k + 1, k, k + R, by omega, by go_num, rfl, by simp, by omega, by omega, Hgo2.out, trivial⟩, by simp [intOf]; omega⟩
            · have hb1 : ¬ (b : Int) - (a : Int) < (R : Int) := by omega
              have hb2 : ¬ (b : Int) - (a : Int) < (k : Int) + (R : Int) - (k : Int) := by omega
              have Hgo2 := Lib.hid Hgo.out
              rw [if_neg hbt] at Hgo2
              clear Hgo
              go_wp2_with fail
              refine ⟨⟨k + 1, a, b, by omega, by go_num, rfl, rfl, by omega, by omega, Hgo2.out, trivial⟩, by simp [intOf]; omega⟩
        · obtain rfl : R = m := by
            rw [runL_end _ _ (by omega)] at hrun
            omega
          have hend' : ¬ (k : Int) + (R : Int) < 8 := by omega
          by_cases hbt : b - a < R
          · have hb1 : (b : Int) - (a : Int) < (R : Int) := by omega
            have hb2 : (b : Int) - (a : Int) < (k : Int) + (R : Int) - (k : Int) := by omega
            have Hgo2 := Lib.hid Hgo.out
            rw [if_pos hbt] at Hgo2
            clear Hgo
            go_wp2_with fail
            refine ⟨⟨k + 1, k, k + R, by omega, by go_num, rfl, by simp, by omega, by omega, Hgo2.out, trivial⟩, by simp [intOf]; omega⟩
          · have hb1 : ¬ (b : Int) - (a : Int) < (R : Int) := by omega
            have hb2 : ¬ (b : Int) - (a : Int) < (k : Int) + (R : Int) - (k : Int) := by omega
            have Hgo2 := Lib.hid Hgo.out
            rw [if_neg hbt] at Hgo2
            clear Hgo
            go_wp2_with fail
            refine ⟨⟨k + 1, a, b, by omega, by go_num, rfl, rfl, by omega, by omega, Hgo2.out, trivial⟩, by simp [intOf]; omega⟩
    · obtain rfl : k = 8 := by omega
      have hlt' : ¬ ((8 : Nat) : Int) < 8 := by omega
      rw [List.drop_eq_nil_of_le (by omega)] at hgo
      have Hgo := Lib.hid (show (a, b) = bestGo (zl G) 0 (0, 0) from hgo)
      clear hgo
      go_wp2
      refine bodyPost_ret (v := .tuple #[.int .i64 a, .int .i64 b]) (by simp [*, results, Tryd.results49, go_sem] <;> rfl) rfl ⟨by rw [← Hgo.out], rfl⟩

end Go.Proofs.YtfebhfghjdedhaaDoor

namespace Go.Proofs.YtfebhfghjdedhaaDoor
open Go.RowKit
set_option maxRecDepth 100000

theorem formatInt_16 (x : Nat) (hxb : x < 65536) (w : World) (he : Env w) :
    Calls Tryd.prog 55 #[.int .i64 x, .int .i64 16] w fun e w' => e = .returned (.string ⟨(hexL x).toArray⟩) ∧ Below w.heap.size w w' := by
  have ci : ∀ w, Env w → Calls Tryd.prog 68 #[.int .i64 x, .int .i64 16] w fun e w' => e = .returned (.string ⟨(hexL x).toArray⟩) ∧ Below w.heap.size w w' := fun w he => by
    have hx0 : ¬ (x : Int) < 0 := by omega
    have hx1 : (x : Int) < 18446744073709551616 := by omega
    go_enter Tryd.func68, Tryd.ntmps68
    go_wp2_with fail
    refine (formatBits_16 x hxb _ he).mono ?_
    rintro e w1 ⟨rfl, hw1⟩
    go_wp2
    go_ret
    exact ⟨rfl, hw1⟩
  go_enter Tryd.func55, Tryd.ntmps55
  go_wp2_with fail
  refine (ci _ he).mono ?_
  rintro e w1 ⟨rfl, hw1⟩
  go_wp2
  go_ret
  exact ⟨rfl, hw1⟩

theorem refDigit_any (r : Int) (h0 : 0 ≤ r) (h1 : r ≤ 255) (w : World) :
    Calls Tryd.prog 60 #[.int .u8 r] w fun e w' => e = .returned (.int .i64 (if dgo r = true then dgv r else -1)) ∧ w' = w := by
  by_cases a : 48 ≤ r ∧ r ≤ 57
  · obtain ⟨a1, a2⟩ := a
    rw [show dgv r = r - 48 from if_pos ⟨a1, a2⟩, show dgo r = true by unfold dgo; simp [a1, a2], if_pos rfl]
    go_enter Tryd.func60, Tryd.ntmps60
    go_wp2
    go_ret
    exact ⟨rfl, rfl⟩
  · by_cases b : 97 ≤ r ∧ r ≤ 102
    · obtain ⟨b1, b2⟩ := b
      have a2 : ¬ r ≤ 57 := by omega
      have a1 : 48 ≤ r := by omega
      rw [show dgv r = r - 97 + 10 by unfold dgv; rw [if_neg a, if_pos ⟨b1, b2⟩], show dgo r = true by unfold dgo; simp [b1, b2], if_pos rfl]
      clear a
      go_enter Tryd.func60, Tryd.ntmps60
      go_wp2
      go_ret
      exact ⟨rfl, rfl⟩
    · by_cases c : 65 ≤ r ∧ r ≤ 70
      · obtain ⟨c1, c2⟩ := c
        have a2 : ¬ r ≤ 57 := by omega
        have a1 : 48 ≤ r := by omega
        have b1 : ¬ 97 ≤ r := by omega
        rw [show dgv r = r - 65 + 10 by unfold dgv; rw [if_neg a, if_neg b, if_pos ⟨c1, c2⟩], show dgo r = true by unfold dgo; simp [c1, c2], if_pos rfl]
        clear a b
        go_enter Tryd.func60, Tryd.ntmps60
        go_wp2
        go_ret
        exact ⟨rfl, rfl⟩
      · rw [show dgo r = false by unfold dgo; simp only [Bool.or_eq_false_iff, decide_eq_false_iff_not]; exact ⟨⟨a, b⟩, c⟩, if_neg (by simp)]
        go_enter Tryd.func60, Tryd.ntmps60
        go_wp2
        all_goals first | (exfalso; omega) | skip
        all_goals go_ret
        all_goals exact ⟨rfl, rfl⟩

/-- Which groups are 0. -/
def zg (us : List Nat) : List Bool := us.map fun u => u == 0

set_option maxHeartbeats 1000000 in
theorem zeros_any (g c k : Nat) (us : List Nat) (hk : k ≤ us.length) (hn : us.length ≤ 100) (w : World) (hcell : ∀ (j : Nat) (u : Nat), us[j]? = some u → w.cell? ⟨g, j, none⟩ = some (.int .i64 (u : Int))) :
    Calls Tryd.prog 54 #[.slice (some ⟨g, 0, none⟩) us.length c, .int .i64 k] w fun e w' => e = .returned (.int .i64 (runL ((zg us).drop k) : Nat)) ∧ w' = w := by
  have Hcell := Lib.hid hcell
  have hzl : (zg us).length = us.length := by simp [zg]
  clear hcell
  go_enter Tryd.func54, Tryd.ntmps54
  go_wp2_with fail
  go_loopw [5] (fun v wr => ∃ m : Nat, k + m ≤ us.length ∧ v = .int .i64 (m : Int) ∧ m + runL ((zg us).drop (k + m)) = runL ((zg us).drop k) ∧ wr = w) (fun v _ => us.length - (intOf v).toNat)
  case atStart => exact ⟨0, by omega, rfl, by rw [Nat.zero_add, Nat.add_zero], rfl⟩
  case round =>
    obtain ⟨m, hm, rfl, hrun, rfl⟩ := hrel
    by_cases hlt : k + m < us.length
    · have hlt' : (k : Int) + (m : Int) < (us.length : Int) := by omega
      obtain ⟨x, hx⟩ : ∃ x, us[k + m]? = some x := ⟨_, List.getElem?_eq_getElem hlt⟩
      have hck := Hcell.out (k + m) x hx
      have hZ : (zg us)[k + m]? = some (x == 0) := by unfold zg; rw [List.getElem?_map, hx]; rfl
      have hcast : ((k : Int) + (m : Int)).toNat = k + m := by omega
      have hge0 : 0 ≤ (k : Int) + (m : Int) := by omega
      by_cases hz : x = 0
      · subst hz
        rw [runL_step _ _ hZ] at hrun
        have Hrun := Lib.hid hrun
        clear hZ hx hrun
        go_wp2_with fail
        refine ⟨⟨m + 1, by omega, by go_num, by have := Hrun.out; rw [← Nat.add_assoc]; omega, trivial⟩, by simp [intOf]; omega⟩
      · have hxz : ((x : Int) == 0) = false := by rw [beq_eq_false_iff_ne]; omega
        have hxn : (x == 0) = false := by rw [beq_eq_false_iff_ne]; exact hz
        rw [hxn] at hZ
        rw [runL_stop _ _ hZ] at hrun
        have Hrun := Lib.hid (show runL ((zg us).drop k) = m by omega)
        clear hZ hx hrun
        go_wp2
        go_ret
        exact ⟨by rw [Hrun.out]; rfl, rfl⟩
    · have hlt' : ¬ (k : Int) + (m : Int) < (us.length : Int) := by omega
      rw [runL_end _ _ (by omega)] at hrun
      have Hrun := Lib.hid (show runL ((zg us).drop k) = m by omega)
      clear hrun
      go_wp2
      go_ret
      exact ⟨by rw [Hrun.out]; rfl, rfl⟩

end Go.Proofs.YtfebhfghjdedhaaDoor

namespace Go.Proofs.YtfebhfghjdedhaaDoor
open Go.RowKit
set_option maxRecDepth 100000

theorem lens_le (M : Nat) : ∀ xs : List (List UInt8), (∀ x ∈ xs, x.length ≤ M) → Lib.lens xs ≤ M * xs.length
  | [], _ => by simp [Lib.lens]
  | x :: xs, h => by
    have h1 := lens_le M xs (fun y hy => h y (by simp [hy]))
    have h2 := h x (by simp)
    unfold Lib.lens at h1 ⊢
    simp only [List.map_cons, List.sum_cons, List.length_cons, Nat.mul_add, Nat.mul_one]
    omega
theorem join_le (M : Nat) (xs : List (List UInt8)) (c : UInt8) (h : ∀ x ∈ xs, x.length ≤ M) : (Lib.join xs [c]).length ≤ (M + 1) * xs.length := by
  cases xs with
  | nil => simp [Lib.join]
  | cons x r =>
    rw [Lib.join_length]
    have := lens_le M (x :: r) h
    rw [Nat.add_mul]
    simp only [List.length_cons, List.length_nil] at this ⊢
    omega
/-- Texts joined: they lie in a row, or there are none. -/
theorem join_any (A : Option Addr) (c : Nat) (xs : List (List UInt8)) (b : UInt8) (w : World) (hA : xs = [] ∨ ∃ g o, A = some ⟨g, o, none⟩ ∧ g < w.heap.size ∧ xs.length ≤ c ∧ ∀ j x, xs[j]? = some x → w.cell? ⟨g, o + j, none⟩ = some (.string ⟨x.toArray⟩))
    (hM : ∀ x ∈ xs, x.length ≤ 100) (hn : xs.length ≤ 100) :
    Calls Tryd.prog 27 #[.slice A xs.length c, .string ⟨#[b]⟩] w fun e w' => e = .returned (.string ⟨(Lib.join xs [b]).toArray⟩) ∧ Below w.heap.size w w' := by
  rcases hA with rfl | ⟨g, o, rfl, hg, hc, hcell⟩
  · exact (Tryd.strings_Join_none A c ⟨#[b]⟩ w).mono fun e w' ⟨h1, h2⟩ => ⟨by rw [h1]; rfl, by rw [h2]; exact Below.refl _ _⟩
  · have hd : (xs.map fun x => (⟨x.toArray⟩ : ByteArray)).map (·.data.toList) = xs := by
      rw [List.map_map]
      exact List.map_id'' (fun x => by simp) xs
    have hj := join_le 100 xs b hM
    have h := Tryd.strings_Join g o c (xs.map fun x => (⟨x.toArray⟩ : ByteArray)) ⟨#[b]⟩ w (fun j x hx => by
      rw [List.getElem?_map] at hx
      cases hy : xs[j]? with
      | none => rw [hy] at hx; cases hx
      | some y =>
        rw [hy] at hx
        simp at hx
        subst hx
        exact hcell j y hy) hg (by simp; omega) (by simpa using hc) (by rw [hd]; show (Lib.join xs [b]).length ≤ _; omega)
    rw [hd, List.length_map] at h
    exact h
theorem ba_append (a b : List UInt8) : (⟨a.toArray⟩ ++ ⟨b.toArray⟩ : ByteArray) = ⟨(a ++ b).toArray⟩ := by
  apply ByteArray.ext
  rw [ByteArray.data_append]
  simp
theorem ba_size (a : List UInt8) : (⟨a.toArray⟩ : ByteArray).size = a.length := by simp [ByteArray.size]
theorem bestGo_bd : ∀ (Z : List Bool) (i : Nat) (p : Nat × Nat), p.1 ≤ p.2 → p.2 ≤ i + Z.length → (bestGo Z i p).1 ≤ (bestGo Z i p).2 ∧ (bestGo Z i p).2 ≤ i + Z.length
  | [], i, p, h1, h2 => ⟨h1, h2⟩
  | b :: Z, i, p, h1, h2 => by
    have hr := runL_le (b :: Z)
    simp only [List.length_cons] at h2 hr ⊢
    have e : bestGo (b :: Z) i p = bestGo Z (i + 1) (if p.2 - p.1 < runL (b :: Z) then (i, i + runL (b :: Z)) else p) := rfl
    rw [e]
    by_cases hc : p.2 - p.1 < runL (b :: Z)
    · rw [if_pos hc]
      have h3 : i ≤ i + runL (b :: Z) := by omega
      have h4 : i + runL (b :: Z) ≤ i + 1 + Z.length := by omega
      have := bestGo_bd Z (i + 1) (i, i + runL (b :: Z)) h3 h4
      omega
    · rw [if_neg hc]
      have := bestGo_bd Z (i + 1) p h1 (by omega)
      omega
def gapL (G : List (List UInt8)) : List UInt8 :=
  if (bestGo (zl G) 0 (0, 0)).2 - (bestGo (zl G) 0 (0, 0)).1 < 2 then Lib.join G [58]
  else Lib.join (G.take (bestGo (zl G) 0 (0, 0)).1) [58] ++ [58, 58] ++ Lib.join (G.drop (bestGo (zl G) 0 (0, 0)).2) [58]

set_option maxHeartbeats 2000000 in
theorem withGap_any (g c : Nat) (hc : 8 ≤ c) (G : List (List UInt8)) (hn : G.length = 8) (hM : ∀ x ∈ G, x.length ≤ 4) (w : World) (hg : g < w.heap.size) (hcell : ∀ j x, G[j]? = some x → w.cell? ⟨g, j, none⟩ = some (.string ⟨x.toArray⟩)) :
    Calls Tryd.prog 25 #[.slice (some ⟨g, 0, none⟩) 8 c] w fun e w' => e = .returned (.string ⟨(gapL G).toArray⟩) ∧ Below w.heap.size w w' := by
  have hbd := bestGo_bd (zl G) 0 (0, 0) (Nat.le_refl _) (Nat.zero_le _)
  have hzl : (zl G).length = 8 := by simp [zl, hn]
  have cl := longestRun_any g c G hn w hcell
  obtain ⟨p, hp⟩ : ∃ p, p = bestGo (zl G) 0 (0, 0) := ⟨_, rfl⟩
  rw [← hp] at cl hbd
  have HL := Lib.hid (show gapL G = if p.2 - p.1 < 2 then Lib.join G [58] else Lib.join (G.take p.1) [58] ++ [58, 58] ++ Lib.join (G.drop p.2) [58] by unfold gapL; rw [← hp])
  clear hp
  obtain ⟨f, t⟩ := p
  simp only at cl hbd HL
  have Hcell := Lib.hid hcell
  have HM := Lib.hid hM
  clear hcell hM
  go_enter Tryd.func25, Tryd.ntmps25
  go_wp2_with fail
  refine cl.mono ?_
  rintro e w1 ⟨rfl, hw1⟩
  rw [hw1]
  clear hw1 w1 cl
  by_cases h2 : t - f < 2
  · have h2' : (t : Int) - (f : Int) < 2 := by omega
    have cj := join_any (some ⟨g, 0, none⟩) c G 58 w (.inr ⟨g, 0, rfl, hg, by omega, fun j x hx => by rw [Nat.zero_add]; exact Hcell.out j x hx⟩) (fun x hx => by have := HM.out x hx; omega) (by omega)
    rw [hn] at cj
    have HL2 := Lib.hid HL.out
    rw [if_pos h2] at HL2
    clear HL
    go_wp2_with fail
    refine cj.mono ?_
    rintro e w1 ⟨rfl, hw1⟩
    go_wp2
    go_ret
    exact ⟨by rw [HL2.out]; rfl, hw1⟩
  · have h2' : ¬ (t : Int) - (f : Int) < 2 := by omega
    have HL2 := Lib.hid HL.out
    rw [if_neg h2] at HL2
    clear HL
    have lf : (G.take f).length = f := by simp; omega
    have lt : (G.drop t).length = 8 - t := by simp; omega
    have c1 : ∀ x : Later w.heap.size w, Calls Tryd.prog 27 #[.slice (some ⟨g, 0, none⟩) f c, .string ⟨#[58]⟩] x.at fun e w' => e = .returned (.string ⟨(Lib.join (G.take f) [58]).toArray⟩) ∧ Below x.at.heap.size x.at w' := fun x => by
      have h := join_any (some ⟨g, 0, none⟩) c (G.take f) 58 x.at (.inr ⟨g, 0, rfl, Nat.lt_of_lt_of_le hg x.below.size, by omega, fun j y hy => by
        rw [Nat.zero_add]
        have hy2 : G[j]? = some y := by
          rw [List.getElem?_take] at hy
          split at hy
          · exact hy
          · cases hy
        exact (x.cell (p := ⟨g, j, none⟩) hg).trans (Hcell.out j y hy2)⟩) (fun y hy => by have := HM.out y (List.mem_of_mem_take hy); omega) (by omega)
      rw [lf] at h
      exact h
    have c2 : ∀ (A : Option Addr) (cc : Nat), (t = 8 ∨ A = some ⟨g, t, none⟩ ∧ 8 - t ≤ cc) → ∀ x : Later w.heap.size w, Calls Tryd.prog 27 #[.slice A (8 - t) cc, .string ⟨#[58]⟩] x.at fun e w' => e = .returned (.string ⟨(Lib.join (G.drop t) [58]).toArray⟩) ∧ Below x.at.heap.size x.at w' := fun A cc hA x => by
      have h := join_any A cc (G.drop t) 58 x.at (by
        rcases hA with h8 | ⟨hA, hcc⟩
        · exact .inl (List.drop_eq_nil_of_le (by omega))
        · refine .inr ⟨g, t, hA, Nat.lt_of_lt_of_le hg x.below.size, by omega, fun j y hy => ?_⟩
          rw [List.getElem?_drop] at hy
          exact (x.cell (p := ⟨g, t + j, none⟩) hg).trans (Hcell.out (t + j) y hy)) (fun y hy => by have := HM.out y (List.mem_of_mem_drop hy); omega) (by omega)
      rw [lt] at h
      exact h
    have l1 := join_le 4 (G.take f) 58 (fun y hy => HM.out y (List.mem_of_mem_take hy))
    have l2 := join_le 4 (G.drop t) 58 (fun y hy => HM.out y (List.mem_of_mem_drop hy))
    rw [lf] at l1
    rw [lt] at l2
    generalize Lib.join (G.take f) [58] = J1 at c1 HL2 l1
    generalize Lib.join (G.drop t) [58] = J2 at c2 HL2 l2
    have l1' : J1.length ≤ 40 := by omega
    have l2' : J2.length ≤ 40 := by omega
    have s1 : ((⟨J1.toArray⟩ : ByteArray).size + (⟨#[58, 58]⟩ : ByteArray).size) ≤ 9223372036854775807 := by simp [ByteArray.size]; omega
    have s2 : ((⟨J1.toArray⟩ ++ ⟨#[58, 58]⟩ : ByteArray).size + (⟨J2.toArray⟩ : ByteArray).size) ≤ 9223372036854775807 := by
      have := ba_append J1 [58, 58]
      rw [show (⟨[58, 58].toArray⟩ : ByteArray) = ⟨#[58, 58]⟩ from rfl] at this
      rw [this, ba_size, ba_size, List.length_append]
      simp
      omega
    have HC1 := fun x => Lib.hid (c1 x)
    have HC2 := fun x => Lib.hid (c2 (if c = t then some ⟨g, 0, none⟩ else some ⟨g, t, none⟩) (c - t) (by
      by_cases h : c = t
      · exact .inl (by omega)
      · exact .inr ⟨if_neg h, by omega⟩) x)
    clear c1 c2 l1 l2
    have hf8 : (f : Int) ≤ 8 := by omega
    have ht8 : (t : Int) ≤ 8 := by omega
    go_wp2_with fail
    refine region_later w.heap.size (by kernel_rfl) (by kernel_rfl) ?_
    repeat (go_big_quiet_step (first
      | (go_at_call 27; with_reducible exact later_of (Nat.le_refl _) (HC1 _).out)
      | (go_at_call 27; with_reducible exact later_of (Nat.le_refl _) (HC2 _).out)))
    refine wpQuiet_nil ?_
    intro x
    have bx := x.below
    clear HC1 HC2
    generalize x.at = w2 at *
    clear x
    have hS : (⟨J1.toArray⟩ ++ ⟨#[58, 58]⟩ ++ ⟨J2.toArray⟩ : ByteArray) = ⟨(gapL G).toArray⟩ := by
      rw [HL2.out, show (⟨#[58, 58]⟩ : ByteArray) = ⟨[58, 58].toArray⟩ from rfl, ba_append, ba_append]
    have HS := Lib.hid hS
    clear hS
    go_wp2
    all_goals go_ret
    all_goals exact ⟨congrArg (fun s => Ending.returned (Value.string s)) HS.out, bx⟩

end Go.Proofs.YtfebhfghjdedhaaDoor

namespace Go.Proofs.YtfebhfghjdedhaaDoor
open Go.RowKit
set_option maxRecDepth 100000

/-- An address as it is written. -/
def printA (a : Ad) : List UInt8 := if a.v6 = true then gapL (grpTs (byteAt a) 8) else Lib.join (numTs (byteAt a) 4) [46]
theorem hexL_le (u : Nat) : (hexL u).length ≤ 4 := by rw [hexL_len]; exact (hexn_bd u).2
theorem grpTs_le (bs : Nat → Int) (k : Nat) : ∀ x ∈ grpTs bs k, x.length ≤ 4 := by
  intro x hx
  unfold grpTs at hx
  obtain ⟨j, _, rfl⟩ := List.mem_map.1 hx
  exact hexL_le _
theorem dec_le (n : Nat) (h : n < 1000) : (Lib.decDigits n).length ≤ 3 := by
  rw [Lib.decDigits]
  split
  · simp
  · rw [Lib.decDigits]
    split
    · simp
    · rw [Lib.decDigits, dif_pos (by omega)]
      simp
theorem numTs_le (bs : Nat → Int) (hb : ∀ j, 0 ≤ bs j ∧ bs j < 256) (k : Nat) : ∀ x ∈ numTs bs k, x.length ≤ 3 := by
  intro x hx
  unfold numTs at hx
  obtain ⟨j, _, rfl⟩ := List.mem_map.1 hx
  have := hb j
  unfold Lib.itoa
  rw [if_neg (by omega)]
  exact dec_le _ (by omega)

set_option maxHeartbeats 2000000 in
theorem printAddr_any (a : Ad) (w : World) (he : Env w) :
    Calls Tryd.prog 9 #[.agg #[.int .u64 (u a.hi), .int .u64 (u a.lo), .bool a.v6]] w fun e w' => e = .returned (.string ⟨(printA a).toArray⟩) ∧ Below w.heap.size w w' := by
  go_enter Tryd.func9, Tryd.ntmps9
  go_wp2_with fail
  generalize hW1 : World.alloc _ _ = W1
  have z1 : w.heap.size < W1.heap.size := by subst hW1; go_size
  have b1 : Below w.heap.size w W1 := by subst hW1; go_grown
  have e1 := he.go b1
  obtain ⟨pa, pb, pc, pd, pe, pf, pz⟩ : Box W1 w.heap.size a := by
    subst hW1
    refine ⟨?_, ?_, ?_, ?_, ?_, ?_, ?_⟩ <;> first | (go_simp; done) | (go_simp <;> rfl) | go_size
  clear hW1
  refine (bytes_any a W1).mono ?_
  rintro e w2 ⟨g, rfl, hgb, hrow, hw2⟩
  have z2 := hw2.size
  have b2 := b1.trans (hw2.mono (Nat.le_of_lt z1))
  have e2 := e1.go hw2
  obtain ⟨qa, qb, qc, qd, qe, qf, qz⟩ := cells3 hw2 pz pa pb pc pd pe pf
  clear pa pb pc pd pe pf pz
  have hgl := hrow.lt
  have hcl := fun j (hj : j < nb a.v6) => hrow.cell hj
  have Hcl := Lib.hid hcl
  clear hcl hrow
  cases hv : a.v6 with
  | true =>
    rw [hv, show nb true = 16 from rfl] at Hcl
    have HP := Lib.hid (show printA a = gapL (grpTs (byteAt a) 8) from if_pos hv)
    have cg := groupTexts_any g 16 (byteAt a) (fun j _ => byteAt_bd a j) w2 e2 hgl Hcl.out
    rw [hv] at qc
    rw [show nb true = 16 from rfl]
    clear hv
    go_wp2_with fail
    refine cg.mono ?_
    rintro e w3 ⟨v3, rfl, hown3, hw3⟩
    have z3 := hw3.size
    have b3 := b2.trans (hw3.mono (by omega))
    obtain ⟨g3, cap3, hv3, hgb3, hgl3⟩ := hown3.form (by omega)
    have hcl3 := hown3.cells (g := g3) (by rw [hv3]; rfl)
    subst hv3
    have hcap : 8 ≤ cap3 := by
      rcases hown3.2 with ⟨h, _⟩ | ⟨g', cap', cur', h, _, _, h4, _⟩
      · cases h
      · injection h with h1 h2 h3
        omega
    have cw := withGap_any g3 cap3 hcap (grpTs (byteAt a) 8) (grpTs_len _ _) (grpTs_le _ _) w3 hgl3 (fun j x hx => by
      have e := hcl3 j (.string ⟨x.toArray⟩) (by unfold strv; rw [List.getElem?_map, hx]; rfl)
      rw [addr_add, Nat.zero_add] at e
      exact e)
    clear hcl3 hown3 cg
    go_wp2_with fail
    refine cw.mono ?_
    rintro e w4 ⟨rfl, hw4⟩
    have b4 := b3.trans (hw4.mono (by omega))
    go_wp2
    go_ret
    exact ⟨by rw [HP.out]; rfl, b4⟩
  | false =>
    rw [hv, show nb false = 4 from rfl] at Hcl
    have HP := Lib.hid (show printA a = Lib.join (numTs (byteAt a) 4) [46] from if_neg (by rw [hv]; simp))
    have cg := numberTexts_any g 4 4 (by omega) (byteAt a) (fun j _ => byteAt_bd a j) w2 e2 hgl Hcl.out
    rw [hv] at qc
    rw [show nb false = 4 from rfl]
    clear hv
    go_wp2_with fail
    refine cg.mono ?_
    rintro e w3 ⟨v3, rfl, hown3, hw3⟩
    have z3 := hw3.size
    have b3 := b2.trans (hw3.mono (by omega))
    obtain ⟨g3, cap3, hv3, hgb3, hgl3⟩ := hown3.form (by omega)
    have hcl3 := hown3.cells (g := g3) (by rw [hv3]; rfl)
    subst hv3
    have hcap : 4 ≤ cap3 := by
      rcases hown3.2 with ⟨h, _⟩ | ⟨g', cap', cur', h, _, _, h4, _⟩
      · cases h
      · injection h with h1 h2 h3
        omega
    have cw := join_any (some ⟨g3, 0, none⟩) cap3 (numTs (byteAt a) 4) 46 w3 (.inr ⟨g3, 0, rfl, hgl3, by rw [numTs_len]; exact hcap, fun j x hx => by
      have e := hcl3 j (.string ⟨x.toArray⟩) (by unfold strv; rw [List.getElem?_map, hx]; rfl)
      rw [addr_add] at e
      exact e⟩) (fun x hx => by have := numTs_le (byteAt a) (byteAt_bd a) 4 x hx; omega) (by rw [numTs_len]; omega)
    rw [numTs_len] at cw
    clear hcl3 hown3 cg
    go_wp2_with fail
    refine cw.mono ?_
    rintro e w4 ⟨rfl, hw4⟩
    have b4 := b3.trans (hw4.mono (by omega))
    go_wp2
    go_ret
    exact ⟨by rw [HP.out]; rfl, b4⟩

/-- A prefix as it is written. -/
def printP (p : Pf) : List UInt8 := printA p.a ++ [47] ++ Lib.itoa p.n
theorem printA_le (a : Ad) : (printA a).length ≤ 80 := by
  unfold printA
  split
  · unfold gapL
    have h1 := join_le 4 (grpTs (byteAt a) 8) 58 (grpTs_le _ _)
    have h2 := join_le 4 ((grpTs (byteAt a) 8).take (bestGo (zl (grpTs (byteAt a) 8)) 0 (0, 0)).1) 58 (fun y hy => grpTs_le _ _ y (List.mem_of_mem_take hy))
    have h3 := join_le 4 ((grpTs (byteAt a) 8).drop (bestGo (zl (grpTs (byteAt a) 8)) 0 (0, 0)).2) 58 (fun y hy => grpTs_le _ _ y (List.mem_of_mem_drop hy))
    have hb := bestGo_bd (zl (grpTs (byteAt a) 8)) 0 (0, 0) (Nat.le_refl _) (Nat.zero_le _)
    rw [List.length_take, grpTs_len] at h2
    rw [List.length_drop, grpTs_len] at h3
    rw [grpTs_len] at h1
    split
    · omega
    · simp only [List.length_append, List.length_cons, List.length_nil]
      omega
  · have h1 := join_le 3 (numTs (byteAt a) 4) 46 (numTs_le _ (byteAt_bd a) _)
    rw [numTs_len] at h1
    omega
theorem dec_big : ∀ (k n : Nat), n < 10 ^ k → (Lib.decDigits n).length ≤ max k 1
  | 0, n, h => by
    rw [Lib.decDigits, dif_pos (by simp at h; omega)]
    simp
  | k + 1, n, h => by
    rw [Lib.decDigits]
    split
    · simp
    · have h1 := dec_big k (n / 10) (by rw [Nat.pow_succ] at h; omega)
      have h2 : k ≠ 0 := by
        intro e
        subst e
        simp at h
        omega
      simp only [List.length_append, List.length_cons, List.length_nil]
      omega
theorem itoa_le (n : Int) (h0 : -9223372036854775808 ≤ n) (h1 : n ≤ 9223372036854775807) : (Lib.itoa n).length ≤ 20 := by
  unfold Lib.itoa
  split
  · have := dec_big 19 n.natAbs (by omega)
    simp only [List.length_cons]
    omega
  · have := dec_big 19 n.toNat (by omega)
    omega

set_option maxHeartbeats 2000000 in
theorem print_any (p : Pf) (h0 : -9223372036854775808 ≤ p.n) (h1 : p.n ≤ 9223372036854775807) (w : World) (he : Env w) :
    Calls Tryd.prog 11 #[.agg #[.int .u64 (u p.a.hi), .int .u64 (u p.a.lo), .bool p.a.v6, .int .i64 p.n]] w fun e w' => e = .returned (.string ⟨(printP p).toArray⟩) ∧ Below w.heap.size w w' := by
  have la := printA_le p.a
  have ln := itoa_le p.n h0 h1
  have HP := Lib.hid (show printP p = printA p.a ++ [47] ++ Lib.itoa p.n from rfl)
  have hc1 : ∀ w, Env w → Calls Tryd.prog 9 #[.agg #[.int .u64 (u p.a.hi), .int .u64 (u p.a.lo), .bool p.a.v6]] w fun e w' => e = .returned (.string ⟨(printA p.a).toArray⟩) ∧ Below w.heap.size w w' := fun w he => printAddr_any p.a w he
  have hc2 : ∀ w, Env w → Calls Tryd.prog 33 #[.int .i64 p.n] w fun e w' => e = .returned (.string ⟨(Lib.itoa p.n).toArray⟩) ∧ Below w.heap.size w w' := fun w he => itoa_any p.n h0 h1 w he
  generalize printA p.a = J1 at *
  generalize Lib.itoa p.n = J2 at *
  have s1 : ((⟨J1.toArray⟩ : ByteArray).size + (⟨#[47]⟩ : ByteArray).size) ≤ 9223372036854775807 := by simp [ByteArray.size]; omega
  have s2 : ((⟨J1.toArray⟩ ++ ⟨#[47]⟩ : ByteArray).size + (⟨J2.toArray⟩ : ByteArray).size) ≤ 9223372036854775807 := by
    have := ba_append J1 [47]
    rw [show (⟨[47].toArray⟩ : ByteArray) = ⟨#[47]⟩ from rfl] at this
    rw [this, ba_size, ba_size, List.length_append]
    simp
    omega
  have hS : (⟨J1.toArray⟩ ++ ⟨#[47]⟩ ++ ⟨J2.toArray⟩ : ByteArray) = ⟨(printP p).toArray⟩ := by
    rw [HP.out, show (⟨#[47]⟩ : ByteArray) = ⟨[47].toArray⟩ from rfl, ba_append, ba_append]
  have HS := Lib.hid hS
  clear hS HP
  go_enter Tryd.func11, Tryd.ntmps11
  go_wp2_with fail
  generalize hW1 : World.alloc _ _ = W1
  have z1 : w.heap.size < W1.heap.size := by subst hW1; go_size
  have b1 : Below w.heap.size w W1 := by subst hW1; go_grown
  obtain ⟨pa, pb, pc, pg, pd, pe, pf, ph, pz⟩ : PBox W1 w.heap.size p := by
    subst hW1
    refine ⟨?_, ?_, ?_, ?_, ?_, ?_, ?_, ?_, ?_⟩ <;> first | (go_simp; done) | (go_simp <;> rfl) | go_size
  clear hW1
  have La := fun x : Later W1.heap.size W1 => (x.cell (p := ⟨w.heap.size, 0, none⟩) pz).trans pa
  have Lb := fun x : Later W1.heap.size W1 => (x.cell (p := ⟨w.heap.size, 1, none⟩) pz).trans pb
  have Lc := fun x : Later W1.heap.size W1 => (x.cell (p := ⟨w.heap.size, 2, none⟩) pz).trans pc
  have Lg := fun x : Later W1.heap.size W1 => (x.cell (p := ⟨w.heap.size, 3, none⟩) pz).trans pg
  have HC1 := fun x : Later W1.heap.size W1 => Lib.hid (hc1 x.at ((he.go b1).go x.below))
  have HC2 := fun x : Later W1.heap.size W1 => Lib.hid (hc2 x.at ((he.go b1).go x.below))
  clear hc1 hc2
  refine region_later W1.heap.size (by kernel_rfl) (by kernel_rfl) ?_
  repeat (go_big_quiet_step (first
    | (go_at_call 9; exact later_of (Nat.le_refl _) (HC1 _).out)
    | (go_at_call 33; exact later_of (Nat.le_refl _) (HC2 _).out)))
  refine wpQuiet_nil ?_
  intro x
  have bx := b1.trans (x.below.mono (Nat.le_of_lt z1))
  clear HC1 HC2 La Lb Lc Lg
  generalize x.at = w2 at *
  clear x
  go_wp2
  go_ret
  exact ⟨congrArg (fun s => Ending.returned (Value.string s)) HS.out, bx⟩

end Go.Proofs.YtfebhfghjdedhaaDoor

namespace Go.Proofs.YtfebhfghjdedhaaDoor
open Go.RowKit
set_option maxRecDepth 100000

def zs (k : Nat) : ByteArray := ⟨Array.replicate k 0⟩
theorem zs_size (k : Nat) : (zs k).size = k := by simp [zs, ByteArray.size]
theorem zeroCells_u8 (k : Nat) : Builtin.zeroCells (Value.int .u8 0).cells k = Array.replicate k (Value.int .u8 0) := by
  apply Array.ext
  · simp [Builtin.zeroCells, Value.cells]
  · intro i h1 h2
    simp [Builtin.zeroCells, Value.cells, Nat.mod_one]
theorem byteCells_zs (k : Nat) : Go.byteCells (zs k) = List.replicate k (Value.int .u8 0) := by simp [Go.byteCells, zs]
theorem take_zs (k : Nat) : List.take k (List.map (fun b : UInt8 => Value.int IntKind.u8 ↑b.toNat) (zs k).data.toList) = List.replicate k (Value.int .u8 0) := by simp [zs]
theorem append_zeros_eq {P : Program} (w : World) (t tn u ty e : TypeId) (i : TypeInfo) (kq kn : IntKind) (ht : P.underlying t = some (.slice e)) (htn : P.underlying tn = some (.int kn)) (hu : P.underlying u = some .string) (hi : P.info? e = some i) (hz : i.zero = some (.int .u8 0)) (hs : i.size = 1) (hb : i.bytes = 1)
    (base : Option Addr) (sLen sCap k : Nat) (hk : k ≤ 1000) (hl : sLen ≤ 1000) (hc : sCap < sLen + k → Builtin.nextslicecap (sLen + k) sCap ≤ 281474976710656) (hlc : sLen ≤ sCap) (olds : List Value) (hold : (Builtin.firstCells i.size sLen (.slice base sLen sCap)).run P w.drew = .ok olds.toArray w.drew) :
    (Builtin.append_ #[t, tn] ty #[.slice base sLen sCap, .int kq k]).run P w = (Builtin.append_ #[t, u] ty #[.slice base sLen sCap, .string (zs k)]).run P w := by
  have hw : IntKind.i64.wrap (k : Int) = k := by rw [IntKind.wrap_i64]; omega
  have hneg : ¬ ((k : Int) < 0) := by omega
  have h48i : ¬ (281474976710656 < (k : Int)) := by omega
  have hsz := zs_size k
  have htk := take_zs k
  by_cases hroom : sLen + k ≤ sCap
  · by_cases hk0 : k = 0
    · subst hk0
      have hw0 : IntKind.i64.wrap 0 = 0 := by decide
      simp [Builtin.append_, run_underlying ht, run_underlying htn, run_underlying hu, sizeOf, typeInfo, hi, hs, hb, asInt, asIntOf, Builtin.lenOf, hsz, Builtin.firstCells, hlc, hw0]
    · have hz1 := zeroCells_u8 k
      simp [Builtin.append_, run_underlying ht, run_underlying htn, run_underlying hu, sizeOf, typeInfo, zeroValue, hi, hz, hs, hb, asInt, asIntOf, hw, hneg, h48i, Builtin.lenOf, hsz, Builtin.firstCells, htk, hroom, hk0, hz1]
  · have hS := Src.ofString (P := P) w hu (zs k)
    rw [← hs, hsz] at hS
    have hnc := hc (by omega)
    rw [Lib.run_append_grow_zeros w t tn ty e i (.int .u8 0) kq kn ht htn hi hz base sLen sCap olds hold k (by omega) (by omega) (by omega) (by omega) (by rw [hb]; omega) (by rw [hb]; omega),
      run_append_grow_src w t u ty e i (.int .u8 0) ht hi hz base sLen sCap olds hold (.string (zs k)) k _ hS (by omega) (by omega) (by rw [hb]; omega)]
    rw [byteCells_zs, zeroCells_u8 k, ← List.toArray_replicate, ← List.append_toArray]

theorem nextcap_small (n c : Nat) (h : n ≤ 200) (hc : c < n) : Builtin.nextslicecap n c ≤ 281474976710656 := by
  unfold Builtin.nextslicecap
  split
  · omega
  · split <;> omega
theorem strCells_zs (k : Nat) : Lib.strCells (zs k) = u8s (List.replicate k 0) := by simp [Lib.strCells, zs, u8s]
/-- Zeros behind a row of its own. -/
theorem run_append_zeros (w : World) (base t tn u ty e : Nat) (i : TypeInfo) (kq kn : IntKind) (ht : Tryd.prog.underlying t = some (.slice e)) (htn : Tryd.prog.underlying tn = some (.int kn)) (hu : Tryd.prog.underlying u = some .string) (hi : Tryd.prog.info? e = some i) (hz : i.zero = some (.int .u8 0)) (hs : i.size = 1) (hb : i.bytes = 1)
    (v : Value) (n : Nat) (xs : List Value) (hown : w.ownsRow base e 1 v n xs) (k : Nat) (hk : n + k ≤ 200) (hbase : base ≤ w.heap.size) :
    ∃ v' w', (Builtin.append_ #[t, tn] ty #[v, .int kq k]).run Tryd.prog w = .ok v' w' ∧ w'.ownsRow base e 1 v' (n + k) (xs ++ u8s (List.replicate k 0)) ∧ w.grownBy w' v.ownBlock ∧ (v' = .slice none 0 0 ↔ v = .slice none 0 0 ∧ k = 0) := by
  obtain ⟨v', w', hr, h1, h2, h3⟩ := Lib.run_append_own_string (P := Tryd.prog) w base t u ty e i ht hu hi hz hs hb v n xs hown (zs k) (by rw [zs_size]; simp only [maxLen]; omega) (by rw [zs_size]; omega) hbase
  rw [zs_size] at h1 h3
  rw [strCells_zs] at h1
  refine ⟨v', w', ?_, h1, h2, h3⟩
  rw [← hr]
  rcases hown.2 with ⟨rfl, rfl⟩ | ⟨g, cap, cur, rfl, hg, hcur, hnc, hcm, hcs, htk⟩
  · exact append_zeros_eq w t tn u ty e i kq kn ht htn hu hi hz hs hb none 0 0 k (by omega) (by omega) (fun h => nextcap_small _ _ (by omega) h) (Nat.le_refl _) [] (run_firstCells_none w.drew _ _ _ _)
  · exact append_zeros_eq w t tn u ty e i kq kn ht htn hu hi hz hs hb (some ⟨g, 0, none⟩) n cap k (by omega) (by omega) (fun h => nextcap_small _ _ (by omega) h) hnc xs (run_firstCells_some w.drew _ _ _ _ _ xs (by rw [hs]; exact hown.1) (by simpa using hown.cells rfl))

/-- Nothing behind a row. -/
theorem run_append_none (w : World) (base t ty e : Nat) (i : TypeInfo) (ht : Tryd.prog.underlying t = some (.slice e)) (hi : Tryd.prog.info? e = some i)
    (v : Value) (n : Nat) (xs : List Value) (hown : w.ownsRow base e 1 v n xs) :
    (Builtin.append_ #[t, t] ty #[v, .slice none 0 0]).run Tryd.prog w = .ok v w := by
  rcases hown.2 with ⟨rfl, rfl⟩ | ⟨g, cap, cur, rfl, hg, hcur, hnc, hcm, hcs, htk⟩
  · simp [Builtin.append_, run_underlying ht, sizeOf, typeInfo, hi, Builtin.lenOf, Builtin.firstCells]
  · simp [Builtin.append_, run_underlying ht, sizeOf, typeInfo, hi, Builtin.lenOf, Builtin.firstCells, hnc, storeCells]

def longL (l : List UInt8) : Option (List Int) :=
  match grsL (Lib.cut l [58, 58]).1, grsL (Lib.cut l [58, 58]).2.1 with
  | some a, some b => if a.length + b.length ≤ 16 ∧ (Lib.cut l [58, 58]).2.2 = decide (a.length + b.length < 16) then some (a ++ List.replicate (16 - a.length - b.length) 0 ++ b) else none
  | _, _ => none

theorem longL_none1 {l : List UInt8} (h : grsL (Lib.cut l [58, 58]).1 = none) : longL l = none := by unfold longL; rw [h]
theorem longL_none2 {l : List UInt8} (h : grsL (Lib.cut l [58, 58]).2.1 = none) : longL l = none := by
  unfold longL
  rw [h]
  cases grsL (Lib.cut l [58, 58]).1 <;> rfl
theorem longL_some {l : List UInt8} {a b : List Int} (h1 : grsL (Lib.cut l [58, 58]).1 = some a) (h2 : grsL (Lib.cut l [58, 58]).2.1 = some b) :
    longL l = if a.length + b.length ≤ 16 ∧ (Lib.cut l [58, 58]).2.2 = decide (a.length + b.length < 16) then some (a ++ List.replicate (16 - a.length - b.length) 0 ++ b) else none := by unfold longL; rw [h1, h2]
theorem cut_len (l sep : List UInt8) : (Lib.cut l sep).1.length ≤ l.length ∧ (Lib.cut l sep).2.1.length ≤ l.length := by
  unfold Lib.cut
  split
  · simp only [List.length_take, List.length_drop]
    omega
  · simp

theorem wpList_append_run {P : Program} {ops : Array Oper} {rest : List Oper} {o : Oper} {a : Act} {Q : Exit → Act → World → Prop} (hgd : o.guard = none) (s x : Operand) (t u : TypeId)
    (ho : o.op = .call { callee := .builtin .append, args := #[s, x], argTypes := #[t, u] }) (v y v' : Value) (w w' : World) (hs : a.eval s = v) (hx : a.eval x = y)
    (hr : (Builtin.append_ #[t, u] o.type #[v, y]).run P w = .ok v' w') (h : wpList P ops Q rest (a.put o.dst v') w') : wpList P ops Q (o :: rest) a w := by
  refine wpList_plain hgd fun K hK => ?_
  unfold Oper.wp execOp
  simp only [ho, resolve, invoke, builtin, Sem.run_bind, Sem.run_pure, Result.andThen_ok, List.map_toArray, List.map_cons, List.map_nil, hs, hx, hr]
  exact hK _ _ h
theorem splitK_len (sep : List UInt8) (save : Nat) : ∀ (k : Nat) (l : List UInt8), (Lib.splitK sep save k l).length ≤ k + 1
  | 0, l => by simp [Lib.splitK]
  | k + 1, l => by
    unfold Lib.splitK
    split
    · simp
    · have := splitK_len sep save k (l.drop ((Lib.index l sep).toNat + sep.length))
      simp only [List.length_cons]
      omega
theorem two_len : ∀ (ps : List (List UInt8)) (acc a : List Int), bytesGo two ps acc = some a → a.length = acc.length + 2 * ps.length
  | [], acc, a, h => by simp [bytesGo] at h; subst h; simp
  | p :: ps, acc, a, h => by
    rw [bytesGo_cons] at h
    cases hp : two p with
    | none => rw [hp] at h; cases h
    | some bs =>
      rw [hp] at h
      have h2 := two_len ps (acc ++ bs) a h
      have hb : bs.length = 2 := by
        unfold two at hp
        cases hg : grpL p with
        | none => rw [hg] at hp; cases hp
        | some n => rw [hg] at hp; simp at hp; subst hp; rfl
      rw [h2, List.length_append, List.length_cons, hb]
      omega
theorem grsL_len {l : List UInt8} {a : List Int} (h : grsL l = some a) : a.length ≤ 18 := by
  unfold grsL at h
  split at h
  · simp at h; subst h; simp
  · have h1 := two_len _ _ _ h
    have h2 := splitK_len [58] 0 (min 8 l.length) l
    unfold partsL at h1
    simp only [List.length_nil] at h1
    omega
theorem own_form {w : World} {base : Nat} {e : TypeId} {n : Nat} {v : Value} {xs : List Value} (h : w.ownsRow base e 1 v n xs) : ∃ A c, v = .slice A n c := by
  rcases h.2 with ⟨rfl, rfl⟩ | ⟨g, cap, cur, rfl, _⟩
  · exact ⟨none, 0, rfl⟩
  · exact ⟨_, _, rfl⟩
theorem bl (l : List UInt8) : (⟨l.toArray⟩ : ByteArray).data.toList = l := by simp

set_option maxHeartbeats 2000000 in
theorem parseLong_any (s : ByteArray) (w : World) (he : Env w) (hs : s.size < 4294967281) :
    Calls Tryd.prog 14 #[.string s] w (PartPost w (longL s.data.toList)) := by
  obtain ⟨i0, hi0, hz0, hz1, hz2⟩ := info_parts info_u8
  have hlen : s.data.toList.length = s.size := by simp
  have hcl := cut_len s.data.toList [58, 58]
  go_enter Tryd.func14, Tryd.ntmps14
  go_wp2_with fail
  refine (cut_any s ⟨#[58, 58]⟩ w he hs).mono ?_
  rintro e w1 ⟨rfl, hw1⟩
  have z1 := hw1.size
  have e1 := he.go hw1
  show _
  obtain ⟨cA, hcA⟩ : ∃ c, c = (Lib.cut s.data.toList [58, 58]).1 := ⟨_, rfl⟩
  obtain ⟨cB, hcB⟩ : ∃ c, c = (Lib.cut s.data.toList [58, 58]).2.1 := ⟨_, rfl⟩
  obtain ⟨cG, hcG⟩ : ∃ c, c = (Lib.cut s.data.toList [58, 58]).2.2 := ⟨_, rfl⟩
  simp only [← hcA, ← hcB, ← hcG] at hcl ⊢
  have cp1 := parseGroups_any ⟨cA.toArray⟩ w1 e1 (by simp [ByteArray.size]; omega)
  rw [bl] at cp1
  have HA := Lib.hid hcA
  have HB := Lib.hid hcB
  have HG := Lib.hid hcG
  clear hcA hcB hcG
  go_wp2_with fail
  refine cp1.mono ?_
  rintro e w2 ⟨v1, rfl, hown1, hw2⟩
  have z2 := hw2.size
  have e2 := e1.go hw2
  obtain ⟨A1, c1, rfl⟩ := own_form hown1
  have Hown1 := Lib.hid hown1
  clear hown1 cp1
  have cp2 := parseGroups_any ⟨cB.toArray⟩ w2 e2 (by simp [ByteArray.size]; omega)
  rw [bl] at cp2
  go_wp2_with fail
  refine cp2.mono ?_
  rintro e w3 ⟨v2, rfl, hown2, hw3⟩
  have z3 := hw3.size
  obtain ⟨A2, c2, rfl⟩ := own_form hown2
  have Hown2 := Lib.hid hown2
  have Hown1' := Lib.hid ((own_keep Hown1.out hw3).mono z1)
  have bW : Below w.heap.size w w3 := (hw1.trans (hw2.mono z1)).trans (hw3.mono (by omega))
  clear hown2 cp2
  cases hA : grsL cA with
  | none =>
    have HR := Lib.hid (show longL s.data.toList = none from longL_none1 (by rw [← HA.out]; exact hA))
    go_wp2
    refine bodyPost_ret (v := .tuple #[.slice none 0 0, .bool false]) (by simp [*, results, Tryd.results14, go_sem] <;> rfl) rfl ⟨.slice none 0 0, by rw [HR.out]; rfl, by rw [HR.out]; exact World.ownsRow_nil _ _ _ _, bW⟩
  | some a =>
    cases hB : grsL cB with
    | none =>
      have HR := Lib.hid (show longL s.data.toList = none from longL_none2 (by rw [← HB.out]; exact hB))
      go_wp2
      refine bodyPost_ret (v := .tuple #[.slice none 0 0, .bool false]) (by simp [*, results, Tryd.results14, go_sem] <;> rfl) rfl ⟨.slice none 0 0, by rw [HR.out]; rfl, by rw [HR.out]; exact World.ownsRow_nil _ _ _ _, bW⟩
    | some b =>
      have hL := longL_some (l := s.data.toList) (by rw [← HA.out]; exact hA) (by rw [← HB.out]; exact hB)
      rw [← HG.out] at hL
      have la := grsL_len hA
      have lb := grsL_len hB
      have la' : (a.length : Int) ≤ 18 := by omega
      have lb' : (b.length : Int) ≤ 18 := by omega
      go_upto_region 5 with fail
      obtain ⟨z, hz⟩ : ∃ z : Int, z = (16 : Int) - a.length - b.length := ⟨_, rfl⟩
      simp only [← hz]
      by_cases hn : z < 0
      · rw [if_neg (fun h => by omega)] at hL
        have HR := Lib.hid hL
        clear hL hz
        go_wp2
        refine bodyPost_ret (v := .tuple #[.slice none 0 0, .bool false]) (by simp [*, results, Tryd.results14, go_sem] <;> rfl) rfl ⟨.slice none 0 0, by rw [HR.out]; rfl, by rw [HR.out]; exact World.ownsRow_nil _ _ _ _, bW⟩
      · by_cases hp : 0 < z
        · cases cG with
          | false =>
            rw [if_neg (fun h => by have := h.2; simp at this; omega)] at hL
            have HR := Lib.hid hL
            clear hL hz
            go_wp2
            refine bodyPost_ret (v := .tuple #[.slice none 0 0, .bool false]) (by simp [*, results, Tryd.results14, go_sem] <;> rfl) rfl ⟨.slice none 0 0, by rw [HR.out]; rfl, by rw [HR.out]; exact World.ownsRow_nil _ _ _ _, bW⟩
          | true =>
            rw [if_pos ⟨by omega, by simp; omega⟩] at hL
            obtain ⟨k, rfl⟩ : ∃ k : Nat, z = k := ⟨z.toNat, by omega⟩
            rw [show 16 - a.length - b.length = k by omega] at hL
            have HR := Lib.hid hL
            have hk : a.length + k + b.length = 16 := by omega
            have hp' : 0 < k := by omega
            have lt0 := Hown1.out.lt
            simp only [hA, Option.getD_some] at lt0
            have o1 := Hown1'.out
            have o2 := Hown2.out
            simp only [hA, hB, Option.getD_some] at o1 o2
            clear hL hz Hown1 Hown1' Hown2 hA hB
            obtain ⟨v4, w4, hr4, hown4, hg4, hnil4⟩ := run_append_zeros w3 w.heap.size 36 3 9 36 5 i0 .i64 .i64 Tryd.underlying36 Tryd.underlying3 Tryd.underlying9 hi0 hz0 hz1 hz2 _ _ _ o1 k (by omega) (by omega)
            have hge1 := own_ge o1
            have lt1 := o1.lt
            have bX : Below w.heap.size w w4 := bW.grown hg4 (by omega) hge1
            have z4 := hg4.size
            rw [← u8s_append] at hown4
            rcases o2.2 with ⟨hv2, hb0⟩ | ⟨g2, cap2, cur2, hv2, hg2, hcur2, hnc2, hcm2, hcs2, htk2⟩
            · injection hv2 with q1 q2 q3
              subst q1 q3
              obtain rfl : b = [] := List.eq_nil_of_length_eq_zero hb0
              have hr5 := run_append_none w4 w.heap.size 36 36 5 i0 Tryd.underlying36 hi0 _ _ _ hown4
              have Hown4 := Lib.hid hown4
              have Hlt := Lib.hid lt1
              have Hge := Lib.hid hge1
              have Hg4 := Lib.hid hg4
              clear hown4 lt1 hge1 hg4 o1 o2 hnil4 lt0
              go_wp2_with (first
                | (at_builtin; refine wpList_append_run rfl (.tmp 50) (.tmp 51) _ _ rfl _ _ v4 w3 w4 rfl rfl hr4 ?_)
                | (at_builtin; refine wpList_append_run rfl (.tmp 53) (.tmp 54) _ _ rfl _ _ v4 w4 w4 rfl rfl hr5 ?_))
              refine bodyPost_ret (v := .tuple #[v4, .bool true]) (by simp [*, results, Tryd.results14, go_sem] <;> rfl) rfl ⟨v4, by rw [HR.out]; rfl, ?_, bX⟩
              rw [HR.out]
              have e := Hown4.out
              simpa using e
            · injection hv2 with q1 q2 q3
              subst q1 q3
              have o2' := o2.kept hg4 (.inr (fun h => by
                have h1 := (lt0 g2 h.symm).2
                omega))
              have hc2 := o2'.cells (g := g2) rfl
              have Hc2 := Lib.hid hc2
              have Hown4 := Lib.hid hown4
              have Hge := Lib.hid hge1
              have Hg4 := Lib.hid hg4
              have Hge4 := Lib.hid (own_ge hown4)
              clear hown4 lt1 lt0 hge1 hg4 o1 o2 hnil4 hc2 o2' hcur2 hnc2 hcm2 hcs2 htk2
              go_wp2_with (first
                | (at_builtin; refine wpList_append_run rfl (.tmp 50) (.tmp 51) _ _ rfl _ _ v4 w3 w4 rfl rfl hr4 ?_)
                | (at_builtin
                   refine wpList_append_own _ rfl (.tmp 53) (.tmp 54) _ rfl w.heap.size 5 i0 _ 1 1 Tryd.underlying36 hi0 hz0 hz1 hz2 rfl (by omega) _ _ _ rfl Hown4.out ⟨g2, 0, none⟩ b.length _ (u8s b) rfl (by simp [u8s]) Hc2.out (by simp [u8s, Value.oneCell']) (by simp only [maxLen]; omega) (by omega) (by omega) ?_
                   intro v5 w5 hown5 hg5 hat5
                   have H5 := Lib.hid hown5
                   have G5 := Lib.hid hg5
                   clear hown5 hg5 hat5))
              have bY : Below w.heap.size w w5 := bX.grown G5.out (by omega) Hge4.out
              refine bodyPost_ret (v := .tuple #[v5, .bool true]) (by simp [*, results, Tryd.results14, go_sem] <;> rfl) rfl ⟨v5, by rw [HR.out]; rfl, ?_, bY⟩
              rw [HR.out]
              have e := H5.out
              rw [← u8s_append] at e
              simpa [Nat.add_assoc] using e
        · cases cG with
          | true =>
            rw [if_neg (fun h => by have := h.2; simp at this; omega)] at hL
            have HR := Lib.hid hL
            clear hL hz
            go_wp2
            refine bodyPost_ret (v := .tuple #[.slice none 0 0, .bool false]) (by simp [*, results, Tryd.results14, go_sem] <;> rfl) rfl ⟨.slice none 0 0, by rw [HR.out]; rfl, by rw [HR.out]; exact World.ownsRow_nil _ _ _ _, bW⟩
          | false =>
            rw [if_pos ⟨by omega, by simp; omega⟩] at hL
            obtain ⟨k, rfl⟩ : ∃ k : Nat, z = k := ⟨z.toNat, by omega⟩
            rw [show 16 - a.length - b.length = k by omega] at hL
            have HR := Lib.hid hL
            have hk : a.length + k + b.length = 16 := by omega
            have hp' : ¬ 0 < k := by omega
            have lt0 := Hown1.out.lt
            simp only [hA, Option.getD_some] at lt0
            have o1 := Hown1'.out
            have o2 := Hown2.out
            simp only [hA, hB, Option.getD_some] at o1 o2
            clear hL hz Hown1 Hown1' Hown2 hA hB
            obtain ⟨v4, w4, hr4, hown4, hg4, hnil4⟩ := run_append_zeros w3 w.heap.size 36 3 9 36 5 i0 .i64 .i64 Tryd.underlying36 Tryd.underlying3 Tryd.underlying9 hi0 hz0 hz1 hz2 _ _ _ o1 k (by omega) (by omega)
            have hge1 := own_ge o1
            have lt1 := o1.lt
            have bX : Below w.heap.size w w4 := bW.grown hg4 (by omega) hge1
            have z4 := hg4.size
            rw [← u8s_append] at hown4
            rcases o2.2 with ⟨hv2, hb0⟩ | ⟨g2, cap2, cur2, hv2, hg2, hcur2, hnc2, hcm2, hcs2, htk2⟩
            · injection hv2 with q1 q2 q3
              subst q1 q3
              obtain rfl : b = [] := List.eq_nil_of_length_eq_zero hb0
              have hr5 := run_append_none w4 w.heap.size 36 36 5 i0 Tryd.underlying36 hi0 _ _ _ hown4
              have Hown4 := Lib.hid hown4
              have Hlt := Lib.hid lt1
              have Hge := Lib.hid hge1
              have Hg4 := Lib.hid hg4
              clear hown4 lt1 hge1 hg4 o1 o2 hnil4 lt0
              go_wp2_with (first
                | (at_builtin; refine wpList_append_run rfl (.tmp 50) (.tmp 51) _ _ rfl _ _ v4 w3 w4 rfl rfl hr4 ?_)
                | (at_builtin; refine wpList_append_run rfl (.tmp 53) (.tmp 54) _ _ rfl _ _ v4 w4 w4 rfl rfl hr5 ?_))
              refine bodyPost_ret (v := .tuple #[v4, .bool true]) (by simp [*, results, Tryd.results14, go_sem] <;> rfl) rfl ⟨v4, by rw [HR.out]; rfl, ?_, bX⟩
              rw [HR.out]
              have e := Hown4.out
              simpa using e
            · injection hv2 with q1 q2 q3
              subst q1 q3
              have o2' := o2.kept hg4 (.inr (fun h => by
                have h1 := (lt0 g2 h.symm).2
                omega))
              have hc2 := o2'.cells (g := g2) rfl
              have Hc2 := Lib.hid hc2
              have Hown4 := Lib.hid hown4
              have Hge := Lib.hid hge1
              have Hg4 := Lib.hid hg4
              have Hge4 := Lib.hid (own_ge hown4)
              clear hown4 lt1 lt0 hge1 hg4 o1 o2 hnil4 hc2 o2' hcur2 hnc2 hcm2 hcs2 htk2
              go_wp2_with (first
                | (at_builtin; refine wpList_append_run rfl (.tmp 50) (.tmp 51) _ _ rfl _ _ v4 w3 w4 rfl rfl hr4 ?_)
                | (at_builtin
                   refine wpList_append_own _ rfl (.tmp 53) (.tmp 54) _ rfl w.heap.size 5 i0 _ 1 1 Tryd.underlying36 hi0 hz0 hz1 hz2 rfl (by omega) _ _ _ rfl Hown4.out ⟨g2, 0, none⟩ b.length _ (u8s b) rfl (by simp [u8s]) Hc2.out (by simp [u8s, Value.oneCell']) (by simp only [maxLen]; omega) (by omega) (by omega) ?_
                   intro v5 w5 hown5 hg5 hat5
                   have H5 := Lib.hid hown5
                   have G5 := Lib.hid hg5
                   clear hown5 hg5 hat5))
              have bY : Below w.heap.size w w5 := bX.grown G5.out (by omega) Hge4.out
              refine bodyPost_ret (v := .tuple #[v5, .bool true]) (by simp [*, results, Tryd.results14, go_sem] <;> rfl) rfl ⟨v5, by rw [HR.out]; rfl, ?_, bY⟩
              rw [HR.out]
              have e := H5.out
              rw [← u8s_append] at e
              simpa [Nat.add_assoc] using e

end Go.Proofs.YtfebhfghjdedhaaDoor

namespace Go.Proofs.YtfebhfghjdedhaaDoor
open Go.RowKit
set_option maxRecDepth 100000

def AllB (l : List Int) : Prop := ∀ x ∈ l, 0 ≤ x ∧ x < 256
theorem bytesGo_all {f : List UInt8 → Option (List Int)} (hf : ∀ p bs, f p = some bs → AllB bs) : ∀ (ps : List (List UInt8)) (acc a : List Int), AllB acc → bytesGo f ps acc = some a → AllB a
  | [], acc, a, ha, h => by simp [bytesGo] at h; subst h; exact ha
  | p :: ps, acc, a, ha, h => by
    rw [bytesGo_cons] at h
    cases hp : f p with
    | none => rw [hp] at h; cases h
    | some bs =>
      rw [hp] at h
      refine bytesGo_all hf ps (acc ++ bs) a (fun x hx => ?_) h
      rcases List.mem_append.1 hx with h1 | h1
      · exact ha x h1
      · exact hf p bs hp x h1
theorem one_all (p : List UInt8) (bs : List Int) (h : one p = some bs) : AllB bs := by
  unfold one at h
  cases hn : numL 255 p with
  | none => rw [hn] at h; cases h
  | some n =>
    rw [hn] at h
    simp at h
    subst h
    intro x hx
    simp at hx
    subst hx
    have := numL_bd (by omega) hn
    omega
theorem two_all (p : List UInt8) (bs : List Int) (h : two p = some bs) : AllB bs := by
  unfold two at h
  cases hn : grpL p with
  | none => rw [hn] at h; cases h
  | some n =>
    rw [hn] at h
    simp at h
    subst h
    have := grpL_bd hn
    intro x hx
    simp at hx
    rcases hx with rfl | rfl <;> omega
theorem one_len : ∀ (ps : List (List UInt8)) (acc a : List Int), bytesGo one ps acc = some a → a.length = acc.length + ps.length
  | [], acc, a, h => by simp [bytesGo] at h; subst h; simp
  | p :: ps, acc, a, h => by
    rw [bytesGo_cons] at h
    cases hp : one p with
    | none => rw [hp] at h; cases h
    | some bs =>
      rw [hp] at h
      have h2 := one_len ps (acc ++ bs) a h
      have hb : bs.length = 1 := by
        unfold one at hp
        cases hg : numL 255 p with
        | none => rw [hg] at hp; cases hp
        | some n => rw [hg] at hp; simp at hp; subst hp; rfl
      rw [h2, List.length_append, List.length_cons, hb]
      omega
theorem shortL_spec {l : List UInt8} {bs : List Int} (h : shortL l = some bs) : bs.length = 4 ∧ AllB bs := by
  unfold shortL at h
  split at h
  · rename_i h4
    have := one_len _ _ _ h
    exact ⟨by rw [this, h4]; rfl, bytesGo_all one_all _ _ _ (fun x hx => by cases hx) h⟩
  · cases h
theorem grsL_all {l : List UInt8} {bs : List Int} (h : grsL l = some bs) : AllB bs := by
  unfold grsL at h
  split at h
  · simp at h; subst h; intro x hx; cases hx
  · exact bytesGo_all two_all _ _ _ (fun x hx => by cases hx) h
theorem longL_spec {l : List UInt8} {bs : List Int} (h : longL l = some bs) : bs.length = 16 ∧ AllB bs := by
  cases h1 : grsL (Lib.cut l [58, 58]).1 with
  | none => rw [longL_none1 h1] at h; cases h
  | some a =>
    cases h2 : grsL (Lib.cut l [58, 58]).2.1 with
    | none => rw [longL_none2 h2] at h; cases h
    | some b =>
      rw [longL_some h1 h2] at h
      split at h
      · rename_i hc
        simp only [Option.some.injEq] at h
        subst h
        refine ⟨by simp; omega, fun x hx => ?_⟩
        rcases List.mem_append.1 hx with h3 | h3
        · rcases List.mem_append.1 h3 with h4 | h4
          · exact grsL_all h1 x h4
          · have := (List.mem_replicate.1 h4).2
            omega
        · exact grsL_all h2 x h3
      · cases h

def at0 (l : List Int) (j : Nat) : Int := l.getD j 0
theorem at0_bd {l : List Int} (h : AllB l) (j : Nat) (hj : j < l.length) : 0 ≤ at0 l j ∧ at0 l j < 256 := by
  unfold at0
  rw [List.getD_eq_getElem?_getD, List.getElem?_eq_getElem hj]
  exact h _ (List.getElem_mem hj)
theorem u8s_at (l : List Int) (j : Nat) (hj : j < l.length) : (u8s l)[j]? = some (.int .u8 (at0 l j)) := by
  unfold u8s at0
  rw [List.getElem?_map, List.getD_eq_getElem?_getD, List.getElem?_eq_getElem hj]
  rfl
/-- A written address. -/
def parseA (l : List UInt8) : Option Ad := match shortL l with
  | some bs => some (fromv (at0 bs) false)
  | none => (longL l).map fun bs => fromv (at0 bs) true
def ad0 : Ad := ⟨0#64, 0#64, false⟩
def erA (o : Option Ad) : Int := if o.isSome then 0 else 5
theorem parseA_short {l : List UInt8} {bs : List Int} (h : shortL l = some bs) : parseA l = some (fromv (at0 bs) false) := by unfold parseA; rw [h]
theorem parseA_long {l : List UInt8} {bs : List Int} (h : shortL l = none) (h2 : longL l = some bs) : parseA l = some (fromv (at0 bs) true) := by unfold parseA; rw [h, h2]; rfl
theorem parseA_none {l : List UInt8} (h : shortL l = none) (h2 : longL l = none) : parseA l = none := by unfold parseA; rw [h, h2]; rfl

set_option maxHeartbeats 2000000 in
theorem parseAddr_any (s : ByteArray) (w : World) (he : Env w) (hs : s.size < 4294967281) :
    Calls Tryd.prog 5 #[.string s] w fun e w' => e = .returned (.tuple #[.agg #[.int .u64 (u ((parseA s.data.toList).getD ad0).hi), .int .u64 (u ((parseA s.data.toList).getD ad0).lo), .bool ((parseA s.data.toList).getD ad0).v6], .int .i64 (erA (parseA s.data.toList))]) ∧ Below w.heap.size w w' := by
  go_enter Tryd.func5, Tryd.ntmps5
  go_wp2_with fail
  generalize hW1 : World.alloc _ _ = W1
  have z1 : w.heap.size < W1.heap.size := by subst hW1; go_size
  have b1 : Below w.heap.size w W1 := by subst hW1; go_grown
  have e1 := he.go b1
  obtain ⟨pa, pb, pc, pd, pe, pf, pz⟩ : Box W1 w.heap.size ad0 := by
    subst hW1
    refine ⟨?_, ?_, ?_, ?_, ?_, ?_, ?_⟩ <;> first | (go_simp; done) | (go_simp <;> rfl) | go_size
  clear hW1
  refine (parseShort_any s W1 e1 hs).mono ?_
  rintro e w2 ⟨v2, rfl, hown2, hw2⟩
  have z2 := hw2.size
  have b2 := b1.trans (hw2.mono (Nat.le_of_lt z1))
  have e2 := e1.go hw2
  obtain ⟨qa, qb, qc, qd, qe, qf, qz⟩ := cells3 hw2 pz pa pb pc pd pe pf
  clear pa pb pc pd pe pf pz
  cases hS : shortL s.data.toList with
  | some bs =>
    obtain ⟨hl, hall⟩ := shortL_spec hS
    rw [hS] at hown2
    simp only [Option.getD_some] at hown2
    obtain ⟨g, cap, hv, hgb, hgl⟩ := hown2.form (by omega)
    have hcl := hown2.cells (g := g) (by rw [hv]; rfl)
    subst hv
    rw [hl]
    have HR := Lib.hid (parseA_short hS)
    have cf := from_four g 0 cap (at0 bs) (fun j hj => at0_bd hall j (by omega)) w2 hgl (fun j hj => by
      have e := hcl j _ (u8s_at bs j (by omega))
      rw [addr_add, Nat.zero_add] at e
      rw [Nat.zero_add]
      exact e)
    clear hcl hown2 hS
    go_wp2_with fail
    refine cf.mono ?_
    rintro e w3 ⟨rfl, hw3⟩
    have z3 := hw3.size
    have b3 := b2.trans (hw3.mono (by omega))
    obtain ⟨ra, rb, rc, rd, re, rf, rz⟩ := cells3 hw3 (by omega) qa qb qc qd qe qf
    clear qa qb qc qd qe qf qz cf
    go_wp2
    refine bodyPost_ret (v := .tuple #[.agg #[.int .u64 (u (fromv (at0 bs) false).hi), .int .u64 (u (fromv (at0 bs) false).lo), .bool (fromv (at0 bs) false).v6], .int .i64 0]) (by simp [*, results, Tryd.results5, go_sem] <;> rfl) rfl ⟨by rw [HR.out]; rfl, ?_⟩
    go_grown
  | none =>
    rw [hS] at hown2
    obtain ⟨A2, c2, rfl⟩ := own_form hown2
    clear hown2
    have cl := parseLong_any s w2 e2 hs
    go_wp2_with fail
    refine cl.mono ?_
    rintro e w3 ⟨v3, rfl, hown3, hw3⟩
    have z3 := hw3.size
    have b3 := b2.trans (hw3.mono (by omega))
    obtain ⟨ra, rb, rc, rd, re, rf, rz⟩ := cells3 hw3 (by omega) qa qb qc qd qe qf
    clear qa qb qc qd qe qf qz cl
    cases hL : longL s.data.toList with
    | none =>
      have HR := Lib.hid (parseA_none hS hL)
      rw [hL] at hown3
      obtain ⟨A3, c3, rfl⟩ := own_form hown3
      clear hown3 hS hL
      go_wp2
      refine bodyPost_ret (v := .tuple #[.agg #[.int .u64 0, .int .u64 0, .bool false], .int .i64 5]) (by simp [*, results, Tryd.results5, go_sem] <;> rfl) rfl ⟨by rw [HR.out]; rfl, ?_⟩
      go_grown
    | some bs =>
      obtain ⟨hl, hall⟩ := longL_spec hL
      rw [hL] at hown3
      simp only [Option.getD_some] at hown3
      obtain ⟨g, cap, hv, hgb, hgl⟩ := hown3.form (by omega)
      have hcl := hown3.cells (g := g) (by rw [hv]; rfl)
      subst hv
      rw [hl]
      have HR := Lib.hid (parseA_long hS hL)
      have cf := from_six g 0 cap (at0 bs) (fun j hj => at0_bd hall j (by omega)) w3 hgl (fun j hj => by
        have e := hcl j _ (u8s_at bs j (by omega))
        rw [addr_add, Nat.zero_add] at e
        rw [Nat.zero_add]
        exact e)
      clear hcl hown3 hS hL
      go_wp2_with fail
      refine cf.mono ?_
      rintro e w4 ⟨rfl, hw4⟩
      have z4 := hw4.size
      have b4 := b3.trans (hw4.mono (by omega))
      obtain ⟨sa, sb, sc, sd, se, sf, sz⟩ := cells3 hw4 (by omega) ra rb rc rd re rf
      clear ra rb rc rd re rf rz cf
      go_wp2
      refine bodyPost_ret (v := .tuple #[.agg #[.int .u64 (u (fromv (at0 bs) true).hi), .int .u64 (u (fromv (at0 bs) true).lo), .bool (fromv (at0 bs) true).v6], .int .i64 0]) (by simp [*, results, Tryd.results5, go_sem] <;> rfl) rfl ⟨by rw [HR.out]; rfl, ?_⟩
      go_grown

end Go.Proofs.YtfebhfghjdedhaaDoor

namespace Go.Proofs.YtfebhfghjdedhaaDoor
open Go.RowKit
set_option maxRecDepth 100000

def pf0 : Pf := ⟨ad0, 0⟩
/-- A written prefix, and the error. -/
def parseP (l : List UInt8) : Pf × Int :=
  if (Lib.cut l [47]).2.2 = false then (pf0, 5) else match parseA (Lib.cut l [47]).1, numL 999 (Lib.cut l [47]).2.1 with
    | some a, some n => if psane ⟨a, n⟩ = true then (⟨a, n⟩, 0) else (pf0, 1)
    | _, _ => (pf0, 5)

theorem parseP_none1 {l : List UInt8} (h : (Lib.cut l [47]).2.2 = false) : parseP l = (pf0, 5) := if_pos h
theorem parseP_none2 {l : List UInt8} (h : (Lib.cut l [47]).2.2 = true) (h1 : parseA (Lib.cut l [47]).1 = none) : parseP l = (pf0, 5) := by
  unfold parseP
  rw [if_neg (by rw [h]; simp), h1]
theorem parseP_none3 {l : List UInt8} {a : Ad} (h : (Lib.cut l [47]).2.2 = true) (h1 : parseA (Lib.cut l [47]).1 = some a) (h2 : numL 999 (Lib.cut l [47]).2.1 = none) : parseP l = (pf0, 5) := by
  unfold parseP
  rw [if_neg (by rw [h]; simp), h1, h2]
theorem parseP_some {l : List UInt8} {a : Ad} {n : Int} (h : (Lib.cut l [47]).2.2 = true) (h1 : parseA (Lib.cut l [47]).1 = some a) (h2 : numL 999 (Lib.cut l [47]).2.1 = some n) : parseP l = if psane ⟨a, n⟩ = true then (⟨a, n⟩, 0) else (pf0, 1) := by
  unfold parseP
  rw [if_neg (by rw [h]; simp), h1, h2]

set_option maxHeartbeats 2000000 in
theorem parse_any (s : ByteArray) (w : World) (he : Env w) (hs : s.size < 4294967281) :
    Calls Tryd.prog 7 #[.string s] w fun e w' => e = .returned (.tuple #[.agg #[.int .u64 (u (parseP s.data.toList).1.a.hi), .int .u64 (u (parseP s.data.toList).1.a.lo), .bool (parseP s.data.toList).1.a.v6, .int .i64 (parseP s.data.toList).1.n], .int .i64 (parseP s.data.toList).2]) ∧ Below w.heap.size w w' := by
  have hlen : s.data.toList.length = s.size := by simp
  have hcl := cut_len s.data.toList [47]
  go_enter Tryd.func7, Tryd.ntmps7
  go_wp2_with fail
  generalize hW1 : World.alloc _ _ = W1
  have z1 : w.heap.size < W1.heap.size := by subst hW1; go_size
  have b1 : Below w.heap.size w W1 := by subst hW1; go_grown
  have e1 := he.go b1
  obtain ⟨pa, pb, pc, pg, pd, pe, pf, ph, pz⟩ : PBox W1 w.heap.size pf0 := by
    subst hW1
    refine ⟨?_, ?_, ?_, ?_, ?_, ?_, ?_, ?_, ?_⟩ <;> first | (go_simp; done) | (go_simp <;> rfl) | go_size
  clear hW1
  refine (cut_any s ⟨#[47]⟩ W1 e1 hs).mono ?_
  rintro e w2 ⟨rfl, hw2⟩
  have z2 := hw2.size
  have b2 := b1.trans (hw2.mono (Nat.le_of_lt z1))
  have e2 := e1.go hw2
  obtain ⟨qa, qb, qc, qg, qd, qe, qf, qh, qz⟩ := cells4 hw2 pz pa pb pc pg pd pe pf ph
  clear pa pb pc pg pd pe pf ph pz
  obtain ⟨cA, hcA⟩ : ∃ c, c = (Lib.cut s.data.toList [47]).1 := ⟨_, rfl⟩
  obtain ⟨cB, hcB⟩ : ∃ c, c = (Lib.cut s.data.toList [47]).2.1 := ⟨_, rfl⟩
  obtain ⟨cG, hcG⟩ : ∃ c, c = (Lib.cut s.data.toList [47]).2.2 := ⟨_, rfl⟩
  simp only [← hcA, ← hcB, ← hcG] at hcl ⊢
  have HA := Lib.hid hcA
  have HB := Lib.hid hcB
  have HG := Lib.hid hcG
  clear hcA hcB hcG
  cases cG with
  | false =>
    have HR := Lib.hid (parseP_none1 HG.out.symm)
    go_wp2
    refine bodyPost_ret (v := .tuple #[.agg #[.int .u64 0, .int .u64 0, .bool false, .int .i64 0], .int .i64 5]) (by simp [*, results, Tryd.results7, go_sem] <;> rfl) rfl ⟨by rw [HR.out]; rfl, ?_⟩
    go_grown
  | true =>
    have ca := parseAddr_any ⟨cA.toArray⟩ w2 e2 (by simp [ByteArray.size]; omega)
    rw [bl] at ca
    cases hA : parseA cA with
    | none =>
      have HR := Lib.hid (parseP_none2 HG.out.symm (by rw [← HA.out]; exact hA))
      rw [hA, show erA none = 5 from rfl] at ca
      clear hA
      go_wp2_with fail
      refine ca.mono ?_
      rintro e w3 ⟨rfl, hw3⟩
      have z3 := hw3.size
      have b3 := b2.trans (hw3.mono (by omega))
      obtain ⟨pa, pb, pc, pg, pd, pe, pf, ph, pz⟩ := cells4 hw3 qz qa qb qc qg qd qe qf qh
      clear qa qb qc qg qd qe qf qh qz ca
      go_wp2
      refine bodyPost_ret (v := .tuple #[.agg #[.int .u64 0, .int .u64 0, .bool false, .int .i64 0], .int .i64 5]) (by simp [*, results, Tryd.results7, go_sem] <;> rfl) rfl ⟨by rw [HR.out]; rfl, ?_⟩
      go_grown
    | some a =>
      rw [hA, show erA (some a) = 0 from rfl, Option.getD_some] at ca
      go_wp2_with fail
      refine ca.mono ?_
      rintro e w3 ⟨rfl, hw3⟩
      have z3 := hw3.size
      have b3 := b2.trans (hw3.mono (by omega))
      obtain ⟨pa, pb, pc, pg, pd, pe, pf, ph, pz⟩ := cells4 hw3 qz qa qb qc qg qd qe qf qh
      clear qa qb qc qg qd qe qf qh qz ca
      have HA1 := Lib.hid hA
      clear hA
      go_wp2_with fail
      generalize hW4 : World.alloc _ _ = W4
      have z4 : w3.heap.size < W4.heap.size := by subst hW4; go_size
      have b4 : Below w3.heap.size w3 W4 := by subst hW4; go_grown
      obtain ⟨ra, rb, rc, rd, re, rf, rz⟩ : Box W4 w3.heap.size a := by
        subst hW4
        refine ⟨?_, ?_, ?_, ?_, ?_, ?_, ?_⟩ <;> first | (go_simp; done) | (go_simp <;> rfl) | go_size
      clear hW4
      obtain ⟨qa, qb, qc, qg, qd, qe, qf, qh, qz⟩ := cells4 b4 pz pa pb pc pg pd pe pf ph
      clear pa pb pc pg pd pe pf ph pz
      have b4' := b3.trans (b4.mono (by omega))
      have cn := number_any ⟨cB.toArray⟩ 999 (by omega) (by omega) W4
      rw [bl] at cn
      cases hN : numL 999 cB with
      | none =>
        have HR := Lib.hid (parseP_none3 HG.out.symm (by rw [← HA.out]; exact HA1.out) (by rw [← HB.out]; exact hN))
        rw [hN] at cn
        clear hN
        refine cn.mono ?_
        rintro e w5 ⟨rfl, hw5⟩
        have z5 := hw5.size
        have b5 := b4'.trans (hw5.mono (by omega))
        obtain ⟨pa, pb, pc, pg, pd, pe, pf, ph, pz⟩ := cells4 hw5 qz qa qb qc qg qd qe qf qh
        clear qa qb qc qg qd qe qf qh qz cn
        go_wp2
        refine bodyPost_ret (v := .tuple #[.agg #[.int .u64 0, .int .u64 0, .bool false, .int .i64 0], .int .i64 5]) (by simp [*, results, Tryd.results7, go_sem] <;> rfl) rfl ⟨by rw [HR.out]; rfl, ?_⟩
        go_grown
      | some n =>
        have hR := parseP_some HG.out.symm (by rw [← HA.out]; exact HA1.out) (by rw [← HB.out]; exact hN)
        rw [hN] at cn
        refine cn.mono ?_
        rintro e w5 ⟨rfl, hw5⟩
        have z5 := hw5.size
        have b5 := b4'.trans (hw5.mono (by omega))
        obtain ⟨pa, pb, pc, pg, pd, pe, pf, ph, pz⟩ := cells4 hw5 qz qa qb qc qg qd qe qf qh
        obtain ⟨sa, sb, sc, sd, se, sf, sz⟩ := cells3 hw5 rz ra rb rc rd re rf
        clear qa qb qc qg qd qe qf qh qz cn ra rb rc rd re rf rz
        clear hN
        cases hP : psane ⟨a, n⟩ with
        | true =>
          rw [hP, if_pos rfl] at hR
          have HR := Lib.hid hR
          clear hR
          go_wp2_with fail
          generalize hW6 : World.alloc _ _ = W6
          have z6 : w5.heap.size < W6.heap.size := by subst hW6; go_size
          have b6 : Below w5.heap.size w5 W6 := by subst hW6; go_grown
          obtain ⟨ra, rb, rc, rg, rd, re, rf, rh, rz⟩ : PBox W6 w5.heap.size ⟨a, n⟩ := by
            subst hW6
            refine ⟨?_, ?_, ?_, ?_, ?_, ?_, ?_, ?_, ?_⟩ <;> first | (go_simp; done) | (go_simp <;> rfl) | go_size
          clear hW6
          obtain ⟨qa, qb, qc, qg, qd, qe, qf, qh, qz⟩ := cells4 b6 pz pa pb pc pg pd pe pf ph
          clear pa pb pc pg pd pe pf ph pz sa sb sc sd se sf sz
          have b6' := b5.trans (b6.mono (by omega))
          have cs := psane_any ⟨a, n⟩ W6
          rw [hP] at cs
          refine cs.mono ?_
          rintro e w7 ⟨rfl, hw7⟩
          have z7 := hw7.size
          have b7 := b6'.trans (hw7.mono (by omega))
          obtain ⟨pa, pb, pc, pg, pd, pe, pf, ph, pz⟩ := cells4 hw7 qz qa qb qc qg qd qe qf qh
          obtain ⟨sa, sb, sc, sg, sd, se, sf, sh, sz⟩ := cells4 hw7 rz ra rb rc rg rd re rf rh
          clear qa qb qc qg qd qe qf qh qz ra rb rc rg rd re rf rh rz cs hP
          go_wp2
          refine bodyPost_ret (v := .tuple #[.agg #[.int .u64 (u (⟨a, n⟩ : Pf).a.hi), .int .u64 (u (⟨a, n⟩ : Pf).a.lo), .bool (⟨a, n⟩ : Pf).a.v6, .int .i64 (⟨a, n⟩ : Pf).n], .int .i64 0]) (by simp [*, results, Tryd.results7, go_sem] <;> rfl) rfl ⟨by rw [HR.out], ?_⟩
          go_grown
        | false =>
          rw [hP, if_neg (by simp)] at hR
          have HR := Lib.hid hR
          clear hR
          go_wp2_with fail
          generalize hW6 : World.alloc _ _ = W6
          have z6 : w5.heap.size < W6.heap.size := by subst hW6; go_size
          have b6 : Below w5.heap.size w5 W6 := by subst hW6; go_grown
          clear hW6
          obtain ⟨qa, qb, qc, qg, qd, qe, qf, qh, qz⟩ := cells4 b6 pz pa pb pc pg pd pe pf ph
          clear pa pb pc pg pd pe pf ph pz sa sb sc sd se sf sz
          have b6' := b5.trans (b6.mono (by omega))
          have cs := psane_any ⟨a, n⟩ W6
          rw [hP] at cs
          refine cs.mono ?_
          rintro e w7 ⟨rfl, hw7⟩
          have z7 := hw7.size
          have b7 := b6'.trans (hw7.mono (by omega))
          obtain ⟨pa, pb, pc, pg, pd, pe, pf, ph, pz⟩ := cells4 hw7 qz qa qb qc qg qd qe qf qh
          clear qa qb qc qg qd qe qf qh qz cs hP
          go_wp2
          refine bodyPost_ret (v := .tuple #[.agg #[.int .u64 0, .int .u64 0, .bool false, .int .i64 0], .int .i64 1]) (by simp [*, results, Tryd.results7, go_sem] <;> rfl) rfl ⟨by rw [HR.out]; rfl, ?_⟩
          go_grown

end Go.Proofs.YtfebhfghjdedhaaDoor

namespace Go.Proofs.YtfebhfghjdedhaaDoor
open Go.RowKit

theorem index_one_none (c : UInt8) : ∀ x : List UInt8, c ∉ x → Lib.index x [c] = -1
  | [], _ => rfl
  | b :: l, h => by
    have h1 : ¬ c = b := fun e => h (by simp [e])
    have h2 := index_one_none c l (fun e => h (by simp [e]))
    unfold Lib.index
    rw [if_neg (by simp [List.isPrefixOf, h1]), h2]
    rfl
theorem index_one_at (c : UInt8) (r : List UInt8) : ∀ x : List UInt8, c ∉ x → Lib.index (x ++ c :: r) [c] = x.length
  | [], _ => by
    show Lib.index (c :: r) [c] = 0
    unfold Lib.index
    rw [if_pos (by simp [List.isPrefixOf])]
  | b :: l, h => by
    have h1 : ¬ c = b := fun e => h (by simp [e])
    have h2 := index_one_at c r l (fun e => h (by simp [e]))
    show Lib.index (b :: (l ++ c :: r)) [c] = _
    unfold Lib.index
    rw [if_neg (by simp [List.isPrefixOf, h1]), h2, if_neg (by simp)]
    simp
theorem splitK_none (c : UInt8) (x : List UInt8) (h : c ∉ x) : ∀ k, Lib.splitK [c] 0 k x = [x]
  | 0 => rfl
  | k + 1 => by
    unfold Lib.splitK
    rw [index_one_none c x h]
    rfl
theorem splitK_cons (c : UInt8) (x r : List UInt8) (h : c ∉ x) (k : Nat) : Lib.splitK [c] 0 (k + 1) (x ++ c :: r) = x :: Lib.splitK [c] 0 k r := by
  have e : Lib.splitK [c] 0 (k + 1) (x ++ c :: r) = if Lib.index (x ++ c :: r) [c] == -1 then [x ++ c :: r] else (x ++ c :: r).take ((Lib.index (x ++ c :: r) [c]).toNat + 0) :: Lib.splitK [c] 0 k ((x ++ c :: r).drop ((Lib.index (x ++ c :: r) [c]).toNat + [c].length)) := rfl
  rw [e, index_one_at c r x h, if_neg (by simp)]
  congr 1
  · simp
  · congr 1
    simp
theorem join_cons2 (x y : List UInt8) (r : List (List UInt8)) (c : UInt8) : Lib.join (x :: y :: r) [c] = x ++ c :: Lib.join (y :: r) [c] := by
  rw [Lib.join_cons, Lib.join_cons]
  simp [Lib.joinTail]
theorem splitK_join (c : UInt8) : ∀ (xs : List (List UInt8)) (k : Nat), xs ≠ [] → xs.length ≤ k + 1 → (∀ x ∈ xs, c ∉ x) → Lib.splitK [c] 0 k (Lib.join xs [c]) = xs
  | [], _, h, _, _ => absurd rfl h
  | [x], k, _, _, h => by rw [Lib.join_one]; exact splitK_none c x (h x (by simp)) k
  | x :: y :: r, k, _, hl, h => by
    simp only [List.length_cons] at hl
    obtain ⟨k', rfl⟩ : ∃ k', k = k' + 1 := ⟨k - 1, by omega⟩
    rw [join_cons2, splitK_cons c x _ (h x (by simp)), splitK_join c (y :: r) k' (by simp) (by simp; omega) (fun z hz => h z (by simp at hz ⊢; exact .inr hz))]
theorem join_ge (c : UInt8) : ∀ xs : List (List UInt8), xs.length ≤ (Lib.join xs [c]).length + 1
  | [] => by simp
  | x :: r => by
    rw [Lib.join_length]
    simp
theorem partsL_join (c : UInt8) (xs : List (List UInt8)) (n : Nat) (h0 : xs ≠ []) (hn : xs.length ≤ n + 1) (h : ∀ x ∈ xs, c ∉ x) : partsL c n (Lib.join xs [c]) = xs := by
  unfold partsL
  have := join_ge c xs
  exact splitK_join c xs _ h0 (by omega) h

theorem numGo_append (most : Int) (b : UInt8) : ∀ (l : List UInt8) (i : Nat) (q : Int), numGo most (l ++ [b]) i q = (numGo most l i q).bind fun r => numGo most [b] (i + l.length) r
  | [], i, q => rfl
  | a :: l, i, q => by
    show numGo most (a :: (l ++ [b])) i q = _
    rw [numGo_cons, numGo_cons]
    split
    · rw [numGo_append most b l, List.length_cons, show i + 1 + l.length = i + (l.length + 1) by omega]
    · rfl
theorem dd_nat (d : Nat) (h : d < 10) : (UInt8.ofNat (48 + d)).toNat = 48 + d := by
  rw [UInt8.toNat_ofNat']
  omega
theorem dd_o (d : Nat) (h : d < 10) : dgo ((UInt8.ofNat (48 + d)).toNat : Int) = true ∧ dgv ((UInt8.ofNat (48 + d)).toNat : Int) = d := by
  rw [dd_nat d h]
  unfold dgo dgv
  constructor
  · simp
    omega
  · rw [if_pos (by omega)]
    omega
theorem dec_num (most : Int) : ∀ n : Nat, 0 ≤ most → numGo most (Lib.decDigits n) 0 0 = if (n : Int) ≤ most then some (n : Int) else none := by
  intro n
  induction n using Nat.strongRecOn with
  | _ n ih =>
    intro hm
    rw [Lib.decDigits]
    by_cases h : n < 10
    · rw [dif_pos h, numGo_cons, (dd_o n h).1, (dd_o n h).2]
      by_cases hn : (n : Int) ≤ most
      · rw [if_pos ⟨rfl, by omega, by omega, by omega⟩, if_pos hn, numGo_nil]
        simp
      · rw [if_neg (by omega), if_neg hn]
    · rw [dif_neg h, numGo_append, ih (n / 10) (by omega) hm]
      have hd := dd_o (n % 10) (by omega)
      by_cases h1 : ((n / 10 : Nat) : Int) ≤ most
      · rw [if_pos h1]
        show numGo most [UInt8.ofNat (48 + n % 10)] _ ((n / 10 : Nat) : Int) = _
        rw [numGo_cons, hd.1, hd.2]
        by_cases hn : (n : Int) ≤ most
        · rw [if_pos ⟨rfl, by omega, by omega, by omega⟩, if_pos hn, numGo_nil]
          congr 1
          omega
        · rw [if_neg (by omega), if_neg hn]
      · rw [if_neg h1, if_neg (by omega)]
        rfl
theorem dec_ne (n : Nat) : Lib.decDigits n ≠ [] := by
  rw [Lib.decDigits]
  split <;> simp
theorem dec_mem (n : Nat) : ∀ b ∈ Lib.decDigits n, 48 ≤ b.toNat ∧ b.toNat ≤ 57 := by
  induction n using Nat.strongRecOn with
  | _ n ih =>
    intro b hb
    rw [Lib.decDigits] at hb
    split at hb
    · rw [List.mem_singleton] at hb
      subst hb
      rw [dd_nat n (by omega)]
      omega
    · rcases List.mem_append.1 hb with h | h
      · exact ih (n / 10) (by omega) b h
      · rw [List.mem_singleton] at h
        subst h
        rw [dd_nat (n % 10) (by omega)]
        omega
theorem numL_dec (most : Int) (n : Nat) (hm : 0 ≤ most) : numL most (Lib.decDigits n) = if (n : Int) ≤ most then some (n : Int) else none := by
  unfold numL
  rw [if_neg (dec_ne n), dec_num most n hm]
theorem numL_itoa (most n : Int) (hm : 0 ≤ most) : numL most (Lib.itoa n) = if 0 ≤ n ∧ n ≤ most then some n else none := by
  unfold Lib.itoa
  by_cases h : n < 0
  · rw [if_pos h, if_neg (by omega)]
    rfl
  · rw [if_neg h, numL_dec most _ hm]
    have e : ((n.toNat : Nat) : Int) = n := by omega
    rw [e]
    by_cases h1 : n ≤ most
    · rw [if_pos h1, if_pos ⟨by omega, h1⟩]
    · rw [if_neg h1, if_neg (by omega)]

theorem hx_nat (d : Nat) (h : d < 16) : (UInt8.ofNat (hx d)).toNat = hx d := by
  have := hx_lt d h
  rw [UInt8.toNat_ofNat']
  omega
theorem hx_o (d : Nat) (h : d < 16) : dgo ((UInt8.ofNat (hx d)).toNat : Int) = true ∧ dgv ((UInt8.ofNat (hx d)).toNat : Int) = d := by
  rw [hx_nat d h]
  unfold dgo dgv hx
  by_cases h10 : d < 10
  · rw [if_pos h10]
    constructor
    · simp
      omega
    · rw [if_pos (by omega)]
      omega
  · rw [if_neg h10]
    constructor
    · simp
      omega
    · rw [if_neg (by omega), if_pos (by omega)]
      omega
theorem grpGo_hx (d : Nat) (h : d < 16) (l : List UInt8) (n : Int) : grpGo (UInt8.ofNat (hx d) :: l) n = grpGo l (n * 16 + d) := by
  rw [grpGo_cons, (hx_o d h).1, (hx_o d h).2, if_pos rfl]
theorem grpL_hexL (u : Nat) (hu : u < 65536) : grpL (hexL u) = some (u : Int) := by
  have hb := hexn_bd u
  have hl := hexL_len u
  unfold grpL
  rw [if_neg (fun h => by
    rcases h with h | h
    · rw [h] at hl; simp at hl; omega
    · omega)]
  have h4 : hexn u = 1 ∨ hexn u = 2 ∨ hexn u = 3 ∨ hexn u = 4 := by omega
  rcases h4 with h | h | h | h
  · have e : hexL u = [UInt8.ofNat (hx (u % 16))] := by unfold hexL; rw [h]; simp [List.range_succ]
    rw [e, grpGo_hx _ (by omega), grpGo_nil]
    have : u < 16 := by unfold hexn at h; split at h <;> (try split at h) <;> (try split at h) <;> omega
    congr 1
    omega
  · have e : hexL u = [UInt8.ofNat (hx (u / 16 % 16)), UInt8.ofNat (hx (u % 16))] := by unfold hexL; rw [h]; simp [List.range_succ]
    rw [e, grpGo_hx _ (by omega), grpGo_hx _ (by omega), grpGo_nil]
    have : u < 256 := by unfold hexn at h; split at h <;> (try split at h) <;> (try split at h) <;> omega
    congr 1
    omega
  · have e : hexL u = [UInt8.ofNat (hx (u / 256 % 16)), UInt8.ofNat (hx (u / 16 % 16)), UInt8.ofNat (hx (u % 16))] := by unfold hexL; rw [h]; simp [List.range_succ]
    rw [e, grpGo_hx _ (by omega), grpGo_hx _ (by omega), grpGo_hx _ (by omega), grpGo_nil]
    have : u < 4096 := by unfold hexn at h; split at h <;> (try split at h) <;> (try split at h) <;> omega
    congr 1
    omega
  · have e : hexL u = [UInt8.ofNat (hx (u / 4096 % 16)), UInt8.ofNat (hx (u / 256 % 16)), UInt8.ofNat (hx (u / 16 % 16)), UInt8.ofNat (hx (u % 16))] := by unfold hexL; rw [h]; simp [List.range_succ]
    rw [e, grpGo_hx _ (by omega), grpGo_hx _ (by omega), grpGo_hx _ (by omega), grpGo_hx _ (by omega), grpGo_nil]
    congr 1
    omega
theorem hexL_mem (u : Nat) : ∀ b ∈ hexL u, (48 ≤ b.toNat ∧ b.toNat ≤ 57) ∨ (97 ≤ b.toNat ∧ b.toNat ≤ 102) := by
  intro b hb
  unfold hexL at hb
  obtain ⟨j, _, rfl⟩ := List.mem_map.1 hb
  have hd : u / 16 ^ (hexn u - 1 - j) % 16 < 16 := Nat.mod_lt _ (by omega)
  rw [hx_nat _ hd]
  generalize u / 16 ^ (hexn u - 1 - j) % 16 = d at hd
  unfold hx
  split <;> omega
theorem hexL_ne (u : Nat) : hexL u ≠ [] := fun h => by
  have h1 := hexL_len u
  rw [h] at h1
  have := (hexn_bd u).1
  simp at h1
  omega

end Go.Proofs.YtfebhfghjdedhaaDoor

namespace Go.Proofs.YtfebhfghjdedhaaDoor
open Go.RowKit

theorem runL_true : ∀ (Z : List Bool) (j : Nat), j < runL Z → Z[j]? = some true
  | [], j, h => by simp [runL] at h
  | false :: Z, j, h => by simp [runL] at h
  | true :: Z, 0, _ => rfl
  | true :: Z, j + 1, h => by
    have h1 : runL (true :: Z) = runL Z + 1 := rfl
    rw [h1] at h
    simpa using runL_true Z j (by omega)
theorem bestGo_run (Z0 : List Bool) : ∀ (Z : List Bool) (i : Nat) (p : Nat × Nat), Z0.drop i = Z → (∀ j, p.1 ≤ j → j < p.2 → Z0[j]? = some true) → ∀ j, (bestGo Z i p).1 ≤ j → j < (bestGo Z i p).2 → Z0[j]? = some true
  | [], _, p, _, h => h
  | b :: Z, i, p, hZ, h => by
    have e : bestGo (b :: Z) i p = bestGo Z (i + 1) (if p.2 - p.1 < runL (b :: Z) then (i, i + runL (b :: Z)) else p) := rfl
    rw [e]
    have hd : Z0.drop (i + 1) = Z := by
      rw [← List.drop_drop, hZ]
      rfl
    refine bestGo_run Z0 Z (i + 1) _ hd ?_
    by_cases hc : p.2 - p.1 < runL (b :: Z)
    · rw [if_pos hc]
      intro j h1 h2
      have h3 : i ≤ j := h1
      have h4 : j < i + runL (b :: Z) := h2
      have := runL_true (b :: Z) (j - i) (by omega)
      rw [← hZ, List.getElem?_drop, show i + (j - i) = j by omega] at this
      exact this
    · rw [if_neg hc]
      exact h

/-- Moved on by so much. -/
def shiftI (n : Nat) (i : Int) : Int := if i == -1 then -1 else i + n
theorem shiftI_two (m n : Nat) (i : Int) (h : -1 ≤ i) : shiftI n (shiftI m i) = shiftI (m + n) i := by
  by_cases h1 : i = -1
  · subst h1
    rfl
  · have e1 : ∀ k, shiftI k i = i + k := fun k => if_neg (by simpa using h1)
    have e2 : shiftI n (i + m) = i + m + n := if_neg (by simp; omega)
    rw [e1, e1, e2]
    omega
theorem shiftI_zero (i : Int) : shiftI 0 i = i := by
  unfold shiftI
  by_cases h1 : i = -1
  · subst h1
    rfl
  · rw [if_neg (by simpa using h1)]
    simp
theorem idx2_cons (c b : UInt8) (l : List UInt8) (h : [c, c].isPrefixOf (b :: l) = false) : Lib.index (b :: l) [c, c] = shiftI 1 (Lib.index l [c, c]) := by
  have e : Lib.index (b :: l) [c, c] = if [c, c].isPrefixOf (b :: l) then 0 else if Lib.index l [c, c] == -1 then -1 else Lib.index l [c, c] + 1 := rfl
  rw [e, if_neg (by rw [h]; simp)]
  rfl
theorem idx2_free (c : UInt8) (y : List UInt8) : ∀ x : List UInt8, c ∉ x → Lib.index (x ++ y) [c, c] = shiftI x.length (Lib.index y [c, c])
  | [], _ => (shiftI_zero _).symm
  | b :: l, h => by
    have h1 : ¬ c = b := fun e => h (by simp [e])
    have h2 := idx2_free c y l (fun e => h (by simp [e]))
    show Lib.index (b :: (l ++ y)) [c, c] = _
    rw [idx2_cons c b _ (by simp [List.isPrefixOf, h1]), h2, shiftI_two _ _ _ (Lib.index_ge _ _), List.length_cons]
theorem idx2_one (c d : UInt8) (h : ¬ c = d) (z : List UInt8) : Lib.index (c :: d :: z) [c, c] = shiftI 1 (Lib.index (d :: z) [c, c]) :=
  idx2_cons c c _ (by simp [List.isPrefixOf, h])
theorem idx2_here (c : UInt8) (r : List UInt8) : Lib.index (c :: c :: r) [c, c] = 0 := by
  have e : Lib.index (c :: c :: r) [c, c] = if [c, c].isPrefixOf (c :: c :: r) then 0 else if Lib.index (c :: r) [c, c] == -1 then -1 else Lib.index (c :: r) [c, c] + 1 := rfl
  rw [e, if_pos (by simp [List.isPrefixOf])]
theorem idx2_nil (c : UInt8) : Lib.index [] [c, c] = -1 := rfl
theorem join_head (c : UInt8) (y : List UInt8) (r : List (List UInt8)) (hy : y ≠ []) (hc : c ∉ y) : ∃ d z, Lib.join (y :: r) [c] = d :: z ∧ ¬ c = d := by
  cases y with
  | nil => exact absurd rfl hy
  | cons d z =>
    refine ⟨d, z ++ Lib.joinTail [c] r, ?_, fun e => hc (by simp [e])⟩
    rw [Lib.join_cons]
    rfl
theorem idx2_join (c : UInt8) : ∀ xs : List (List UInt8), (∀ x ∈ xs, x ≠ [] ∧ c ∉ x) → Lib.index (Lib.join xs [c]) [c, c] = -1
  | [], _ => rfl
  | [x], h => by
    rw [Lib.join_one]
    have := idx2_free c [] x (h x (by simp)).2
    rw [List.append_nil] at this
    rw [this]
    rfl
  | x :: y :: r, h => by
    obtain ⟨d, z, e, hd⟩ := join_head c y r (h y (by simp)).1 (h y (by simp)).2
    have ih := idx2_join c (y :: r) (fun w hw => h w (by simp at hw ⊢; exact .inr hw))
    rw [join_cons2, e, idx2_free c _ x (h x (by simp)).2, idx2_one c d hd, ← e, ih]
    rfl
theorem idx2_gap (c : UInt8) (t : List UInt8) : ∀ xs : List (List UInt8), (∀ x ∈ xs, x ≠ [] ∧ c ∉ x) → Lib.index (Lib.join xs [c] ++ c :: c :: t) [c, c] = (Lib.join xs [c]).length
  | [], _ => idx2_here c t
  | [x], h => by
    rw [Lib.join_one, idx2_free c _ x (h x (by simp)).2, idx2_here]
    unfold shiftI
    simp
  | x :: y :: r, h => by
    obtain ⟨d, z, e, hd⟩ := join_head c y r (h y (by simp)).1 (h y (by simp)).2
    have ih := idx2_gap c t (y :: r) (fun w hw => h w (by simp at hw ⊢; exact .inr hw))
    rw [join_cons2, List.append_assoc, List.cons_append]
    rw [e] at ih ⊢
    rw [idx2_free c _ x (h x (by simp)).2, List.cons_append, idx2_one c d hd, ← List.cons_append, ih, shiftI_two _ _ _ (by omega)]
    unfold shiftI
    rw [if_neg (by simp; omega)]
    simp only [List.length_append, List.length_cons]
    omega
theorem cut2_join (xs : List (List UInt8)) (h : ∀ x ∈ xs, x ≠ [] ∧ (58 : UInt8) ∉ x) : Lib.cut (Lib.join xs [58]) [58, 58] = (Lib.join xs [58], [], false) := by
  unfold Lib.cut
  rw [idx2_join 58 xs h]
  rfl
theorem cut2_gap (xs : List (List UInt8)) (t : List UInt8) (h : ∀ x ∈ xs, x ≠ [] ∧ (58 : UInt8) ∉ x) : Lib.cut (Lib.join xs [58] ++ [58, 58] ++ t) [58, 58] = (Lib.join xs [58], t, true) := by
  unfold Lib.cut
  have e := idx2_gap 58 t xs h
  rw [show Lib.join xs [58] ++ [58, 58] ++ t = Lib.join xs [58] ++ 58 :: 58 :: t by simp]
  rw [e, if_pos (by omega)]
  simp

/-- The bytes of groups. -/
def flatG (us : List Nat) : List Int := us.flatMap fun u : Nat => [(u : Int) / 256, (u : Int) % 256]
theorem flatG_append (a b : List Nat) : flatG (a ++ b) = flatG a ++ flatG b := List.flatMap_append
theorem flatG_len (us : List Nat) : (flatG us).length = 2 * us.length := by
  induction us with
  | nil => rfl
  | cons u us ih =>
    have e : flatG (u :: us) = [(u : Int) / 256, (u : Int) % 256] ++ flatG us := rfl
    rw [e, List.length_append, ih, List.length_cons]
    simp
    omega
theorem flatG_zero (us : List Nat) (h : ∀ u ∈ us, u = 0) : flatG us = List.replicate (2 * us.length) 0 := by
  induction us with
  | nil => rfl
  | cons u us ih =>
    have e : flatG (u :: us) = [(u : Int) / 256, (u : Int) % 256] ++ flatG us := rfl
    rw [e, ih (fun v hv => h v (by simp [hv])), h u (by simp), List.length_cons, show 2 * (us.length + 1) = 2 * us.length + 1 + 1 by omega, List.replicate_succ, List.replicate_succ]
    rfl
theorem two_hex (us : List Nat) (hu : ∀ u ∈ us, u < 65536) : ∀ acc, bytesGo two (us.map hexL) acc = some (acc ++ flatG us) := by
  induction us with
  | nil => intro acc; simp [bytesGo, flatG]
  | cons u us ih =>
    intro acc
    have h1 : two (hexL u) = some [(u : Int) / 256, (u : Int) % 256] := by
      unfold two
      rw [grpL_hexL u (hu u (by simp))]
      rfl
    rw [List.map_cons, bytesGo_some h1, ih (fun v hv => hu v (by simp [hv])), List.append_assoc]
    rfl
theorem hex_parts (us : List Nat) (c : UInt8) (hc : ¬ (48 ≤ c.toNat ∧ c.toNat ≤ 57) ∧ ¬ (97 ≤ c.toNat ∧ c.toNat ≤ 102)) : ∀ x ∈ us.map hexL, x ≠ [] ∧ c ∉ x := by
  intro x hx
  obtain ⟨u, _, rfl⟩ := List.mem_map.1 hx
  refine ⟨hexL_ne u, fun h => ?_⟩
  rcases hexL_mem u c h with h1 | h1
  · exact hc.1 h1
  · exact hc.2 h1
theorem join_ne (xs : List (List UInt8)) (c : UInt8) (h0 : xs ≠ []) (h : ∀ x ∈ xs, x ≠ []) : Lib.join xs [c] ≠ [] := by
  cases xs with
  | nil => exact absurd rfl h0
  | cons x r =>
    rw [Lib.join_cons]
    intro e
    exact h x (by simp) (List.append_eq_nil_iff.1 e).1
theorem grsL_hex (us : List Nat) (hn : us.length ≤ 8) (hu : ∀ u ∈ us, u < 65536) : grsL (Lib.join (us.map hexL) [58]) = some (flatG us) := by
  by_cases h0 : us = []
  · subst h0
    rfl
  · have hp := hex_parts us 58 (by decide)
    have h1 : us.map hexL ≠ [] := by simpa using h0
    unfold grsL
    rw [if_neg (join_ne _ 58 h1 (fun x hx => (hp x hx).1)), partsL_join 58 _ 8 h1 (by simp; omega) (fun x hx => (hp x hx).2), two_hex us hu]
    simp
theorem isZ_hex (u : Nat) (hu : u < 65536) (h : isZ (hexL u) = true) : u = 0 := by
  unfold isZ at h
  have e : hexL u = [48] := by simpa using h
  have := grpL_hexL u hu
  rw [e] at this
  have h0 : grpL [48] = some 0 := by decide
  rw [h0] at this
  simp at this
  omega

/-- Groups as they are written are read again. -/
theorem longL_gap (us : List Nat) (hn : us.length = 8) (hu : ∀ u ∈ us, u < 65536) : longL (gapL (us.map hexL)) = some (flatG us) := by
  have hp := hex_parts us 58 (by decide)
  obtain ⟨p, hpp⟩ : ∃ p, p = bestGo (zl (us.map hexL)) 0 (0, 0) := ⟨_, rfl⟩
  have hbd := bestGo_bd (zl (us.map hexL)) 0 (0, 0) (Nat.le_refl _) (Nat.zero_le _)
  have hrun := bestGo_run (zl (us.map hexL)) (zl (us.map hexL)) 0 (0, 0) rfl (fun j h1 h2 => by simp at h2)
  have hzl : (zl (us.map hexL)).length = 8 := by simp [zl, hn]
  rw [← hpp] at hbd hrun
  unfold gapL
  rw [← hpp]
  obtain ⟨f, t⟩ := p
  simp only at hbd hrun ⊢
  by_cases h2 : t - f < 2
  · rw [if_pos h2]
    have hc := cut2_join _ hp
    have h1 : grsL (Lib.cut (Lib.join (us.map hexL) [58]) [58, 58]).1 = some (flatG us) := by rw [hc]; exact grsL_hex us (by omega) hu
    have h3 : grsL (Lib.cut (Lib.join (us.map hexL) [58]) [58, 58]).2.1 = some [] := by rw [hc]; rfl
    rw [longL_some h1 h3, hc, if_pos ⟨by rw [flatG_len]; simp; omega, by rw [flatG_len, hn]; rfl⟩]
    have : 16 - (flatG us).length - ([] : List Int).length = 0 := by rw [flatG_len]; omega
    rw [this]
    simp
  · rw [if_neg h2]
    rw [← List.map_take, ← List.map_drop]
    have hpt : ∀ x ∈ (us.take f).map hexL, x ≠ [] ∧ (58 : UInt8) ∉ x := hex_parts _ 58 (by decide)
    have hc := cut2_gap ((us.take f).map hexL) (Lib.join ((us.drop t).map hexL) [58]) hpt
    have lf : (us.take f).length = f := by simp; omega
    have lt : (us.drop t).length = 8 - t := by simp; omega
    have h1 : grsL (Lib.cut (Lib.join ((us.take f).map hexL) [58] ++ [58, 58] ++ Lib.join ((us.drop t).map hexL) [58]) [58, 58]).1 = some (flatG (us.take f)) := by
      rw [hc]; exact grsL_hex _ (by omega) (fun u h => hu u (List.mem_of_mem_take h))
    have h3 : grsL (Lib.cut (Lib.join ((us.take f).map hexL) [58] ++ [58, 58] ++ Lib.join ((us.drop t).map hexL) [58]) [58, 58]).2.1 = some (flatG (us.drop t)) := by
      rw [hc]; exact grsL_hex _ (by omega) (fun u h => hu u (List.mem_of_mem_drop h))
    rw [longL_some h1 h3, hc, flatG_len, flatG_len, lf, lt, if_pos ⟨by omega, by simp; omega⟩]
    congr 1
    have hmid : flatG ((us.drop f).take (t - f)) = List.replicate (16 - 2 * f - 2 * (8 - t)) 0 := by
      rw [flatG_zero]
      · congr 1
        simp
        omega
      · intro u hmem
        obtain ⟨j, hj, e⟩ := List.getElem_of_mem hmem
        simp only [List.length_take, List.length_drop] at hj
        have hz := hrun (f + j) (by omega) (by omega)
        unfold zl at hz
        rw [List.getElem?_map, List.getElem?_map, List.getElem?_eq_getElem (by omega)] at hz
        simp only [Option.map_some, Option.some.injEq] at hz
        have h0 := isZ_hex _ (hu _ (List.getElem_mem (by omega))) hz
        rw [← e]
        simpa using h0
    rw [← hmid, ← flatG_append, ← flatG_append]
    congr 1
    rw [List.append_assoc, show us.drop t = (us.drop f).drop (t - f) by rw [List.drop_drop]; congr 1; omega, List.take_append_drop, List.take_append_drop]

end Go.Proofs.YtfebhfghjdedhaaDoor

namespace Go.Proofs.YtfebhfghjdedhaaDoor
open Go.RowKit
set_option maxRecDepth 100000

theorem index_short (sub : List UInt8) (h0 : sub ≠ []) : ∀ l : List UInt8, l.length < sub.length → Lib.index l sub = -1
  | [], _ => by
    unfold Lib.index
    cases sub with
    | nil => exact absurd rfl h0
    | cons a b => rfl
  | b :: l, h => by
    have ih := index_short sub h0 l (by simp only [List.length_cons] at h; omega)
    have e : Lib.index (b :: l) sub = if sub.isPrefixOf (b :: l) then 0 else if Lib.index l sub == -1 then -1 else Lib.index l sub + 1 := rfl
    rw [e, if_neg (fun hp => by
      have := (List.isPrefixOf_iff_prefix.1 hp).length_le
      omega), ih]
    rfl
theorem take_prefix (sub l : List UInt8) : (l.take sub.length == sub) = sub.isPrefixOf l := by
  rw [Bool.eq_iff_iff, beq_iff_eq, List.isPrefixOf_iff_prefix, List.prefix_iff_eq_take]
  exact ⟨fun h => h.symm, fun h => h.symm⟩
theorem index_drop (sub l : List UInt8) (k : Nat) (hk : k < l.length) (h : sub.isPrefixOf (l.drop k) = false) : Lib.index (l.drop k) sub = shiftI 1 (Lib.index (l.drop (k + 1)) sub) := by
  rw [List.drop_eq_getElem_cons hk] at h ⊢
  have e : Lib.index (l[k] :: l.drop (k + 1)) sub = if sub.isPrefixOf (l[k] :: l.drop (k + 1)) then 0 else if Lib.index (l.drop (k + 1)) sub == -1 then -1 else Lib.index (l.drop (k + 1)) sub + 1 := rfl
  rw [e, if_neg (by rw [h]; simp)]
  rfl
theorem index_here (sub l : List UInt8) (h0 : sub ≠ []) (h : sub.isPrefixOf l = true) : Lib.index l sub = 0 := by
  cases l with
  | nil => cases sub with
    | nil => exact absurd rfl h0
    | cons a b => cases h
  | cons b t =>
    have e : Lib.index (b :: t) sub = if sub.isPrefixOf (b :: t) then 0 else if Lib.index t sub == -1 then -1 else Lib.index t sub + 1 := rfl
    rw [e, if_pos h]

set_option maxHeartbeats 1000000 in
theorem refIndex_any (s t : ByteArray) (h0 : t.data.toList ≠ []) (hs : s.size ≤ 4294967296) (ht : t.size ≤ 4294967296) (w : World) :
    Calls Tryd.prog 16 #[.string s, .string t] w fun e w' => e = .returned (.int .i64 (Lib.index s.data.toList t.data.toList)) ∧ w' = w := by
  have ls : s.data.toList.length = s.size := by simp
  have lt : t.data.toList.length = t.size := by simp
  have H0 := Lib.hid h0
  clear h0
  go_enter Tryd.func16, Tryd.ntmps16
  go_wp2_with fail
  go_loopw [5] (fun v wr => ∃ k : Nat, k ≤ s.size ∧ v = .int .i64 (k : Int) ∧ Hid (Lib.index s.data.toList t.data.toList = shiftI k (Lib.index (s.data.toList.drop k) t.data.toList)) ∧ wr = w) (fun v _ => s.size + 1 - (intOf v).toNat)
  case atStart => exact ⟨0, by omega, rfl, Lib.hid (by rw [List.drop_zero, shiftI_zero]), rfl⟩
  case round =>
    obtain ⟨k, hk, rfl, HR, rfl⟩ := hrel
    by_cases hlt : k + t.size ≤ s.size
    · have hlt' : (k : Int) + (t.size : Int) ≤ (s.size : Int) := by omega
      have hx : ((s.extract k (k + t.size)).toList == t.toList) = t.data.toList.isPrefixOf (s.data.toList.drop k) := by
        rw [ByteArray.toList_eq, ByteArray.toList_eq, ← take_prefix, lt, ByteArray.data_extract, Array.toList_extract]
        show (List.take (k + t.size - k) (List.drop k s.data.toList) == t.data.toList) = _
        rw [Nat.add_sub_cancel_left]
      cases hp : t.data.toList.isPrefixOf (s.data.toList.drop k) with
      | true =>
        rw [hp] at hx
        have Hk := Lib.hid (show Lib.index s.data.toList t.data.toList = (k : Int) by rw [HR.out, index_here _ _ H0.out hp]; unfold shiftI; simp)
        clear HR hp
        go_wp2
        go_ret
        exact ⟨by rw [Hk.out]; rfl, rfl⟩
      | false =>
        rw [hp] at hx
        have hk2 : k < s.size := by
          have : t.size ≠ 0 := fun e => H0.out (List.eq_nil_of_length_eq_zero (by omega))
          omega
        have Hk := Lib.hid (show Lib.index s.data.toList t.data.toList = shiftI (k + 1) (Lib.index (s.data.toList.drop (k + 1)) t.data.toList) by rw [HR.out, index_drop _ _ k (by omega) hp, shiftI_two _ _ _ (Lib.index_ge _ _), Nat.add_comm 1 k])
        clear HR hp
        go_wp2_with fail
        refine ⟨⟨k + 1, by omega, by go_num, Hk, trivial⟩, by simp [intOf]; omega⟩
    · have hlt' : ¬ (k : Int) + (t.size : Int) ≤ (s.size : Int) := by omega
      have Hk := Lib.hid (show Lib.index s.data.toList t.data.toList = -1 by
        rw [HR.out, index_short _ H0.out _ (by rw [List.length_drop]; omega)]
        rfl)
      clear HR
      go_wp2
      go_ret
      exact ⟨by rw [Hk.out]; rfl, rfl⟩

end Go.Proofs.YtfebhfghjdedhaaDoor

namespace Go.Proofs.YtfebhfghjdedhaaDoor
open Go.RowKit
set_option maxRecDepth 100000

/-- A text's parts, all of them, between which a byte stands; 'cur': what is there of the first one. -/
def spl (c : UInt8) : List UInt8 → List UInt8 → List (List UInt8)
  | cur, [] => [cur]
  | cur, b :: l => if b = c then cur :: spl c [] l else spl c (cur ++ [b]) l
theorem spl_nil (c : UInt8) (cur : List UInt8) : spl c cur [] = [cur] := rfl
theorem spl_cons (c : UInt8) (cur : List UInt8) (b : UInt8) (l : List UInt8) : spl c cur (b :: l) = if b = c then cur :: spl c [] l else spl c (cur ++ [b]) l := rfl
theorem spl_none (c : UInt8) : ∀ (l cur : List UInt8), c ∉ l → spl c cur l = [cur ++ l]
  | [], cur, _ => by simp [spl_nil]
  | b :: l, cur, h => by
    have h2 : ¬ b = c := fun e => h (by simp [e])
    rw [spl_cons, if_neg h2, spl_none c l _ (fun e => h (by simp [e]))]
    simp
theorem spl_at (c : UInt8) (r : List UInt8) : ∀ (x cur : List UInt8), c ∉ x → spl c cur (x ++ c :: r) = (cur ++ x) :: spl c [] r
  | [], cur, _ => by simp [spl_cons]
  | b :: l, cur, h => by
    have h2 : ¬ b = c := fun e => h (by simp [e])
    rw [List.cons_append, spl_cons, if_neg h2, spl_at c r l _ (fun e => h (by simp [e]))]
    simp
theorem spl_pos (c : UInt8) : ∀ (l cur : List UInt8), 1 ≤ (spl c cur l).length
  | [], cur => by simp [spl_nil]
  | b :: l, cur => by
    rw [spl_cons]
    split
    · simp
    · exact spl_pos c l _
theorem spl_le (c : UInt8) : ∀ (l cur : List UInt8), (spl c cur l).length ≤ l.length + 1
  | [], cur => by simp [spl_nil]
  | b :: l, cur => by
    rw [spl_cons]
    split
    · have := spl_le c l []
      simp only [List.length_cons]
      omega
    · have := spl_le c l (cur ++ [b])
      simp only [List.length_cons]
      omega
theorem spl_mem (c d : UInt8) (hd : ¬ d = c) : ∀ (l cur : List UInt8), d ∈ cur ∨ d ∈ l → ∃ p ∈ spl c cur l, d ∈ p
  | [], cur, h => ⟨cur, by simp [spl_nil], by simpa using h⟩
  | b :: l, cur, h => by
    rw [spl_cons]
    split
    case isTrue e =>
      rcases h with h | h
      · exact ⟨cur, by simp, h⟩
      · rcases List.mem_cons.1 h with h | h
        · exact absurd (h.trans e) hd
        · obtain ⟨p, p1, p2⟩ := spl_mem c d hd l [] (Or.inr h)
          exact ⟨p, List.mem_cons_of_mem _ p1, p2⟩
    case isFalse e =>
      refine spl_mem c d hd l (cur ++ [b]) ?_
      rcases h with h | h
      · exact Or.inl (by simp [h])
      · rcases List.mem_cons.1 h with h | h
        · exact Or.inl (by simp [h])
        · exact Or.inr h
theorem mem_at (c : UInt8) : ∀ l : List UInt8, c ∈ l → ∃ x r, l = x ++ c :: r ∧ c ∉ x
  | [], h => by simp at h
  | b :: l, h => by
    by_cases e : b = c
    · exact ⟨[], l, by simp [e], by simp⟩
    · obtain ⟨x, r, h1, h2⟩ := mem_at c l (by
        rcases List.mem_cons.1 h with h | h
        · exact absurd h.symm e
        · exact h)
      refine ⟨b :: x, r, by simp [h1], ?_⟩
      intro h3
      rcases List.mem_cons.1 h3 with h3 | h3
      · exact e h3.symm
      · exact h2 h3
theorem splitK_spl (c : UInt8) : ∀ (k : Nat) (l : List UInt8), (spl c [] l).length ≤ k + 1 → Lib.splitK [c] 0 k l = spl c [] l
  | k, l, h => by
    by_cases m : c ∈ l
    · obtain ⟨x, r, rfl, hx⟩ := mem_at c l m
      rw [spl_at c r x [] hx] at h ⊢
      have hp := spl_pos c r []
      simp only [List.length_cons] at h
      cases k with
      | zero => omega
      | succ k => rw [splitK_cons c x r hx k, splitK_spl c k r (by omega), List.nil_append]
    · rw [splitK_none c l m, spl_none c l [] m, List.nil_append]
theorem splitK_over (c : UInt8) : ∀ (k : Nat) (l : List UInt8), k + 1 < (spl c [] l).length → (Lib.splitK [c] 0 k l).length = k + 1 ∧ ∃ p ∈ Lib.splitK [c] 0 k l, c ∈ p
  | k, l, h => by
    by_cases m : c ∈ l
    · cases k with
      | zero => exact ⟨rfl, l, by simp [Lib.splitK], m⟩
      | succ k =>
        obtain ⟨x, r, rfl, hx⟩ := mem_at c l m
        rw [spl_at c r x [] hx] at h
        simp only [List.length_cons] at h
        obtain ⟨h1, p, h2, h3⟩ := splitK_over c k r (by omega)
        rw [splitK_cons c x r hx k]
        exact ⟨by simp [h1], p, List.mem_cons_of_mem _ h2, h3⟩
    · rw [spl_none c l [] m] at h
      simp at h
theorem partsL_spl (c : UInt8) (n : Nat) (l : List UInt8) (h : (spl c [] l).length ≤ n + 1) : partsL c n l = spl c [] l := by
  have := spl_le c l []
  exact splitK_spl c _ l (by omega)
theorem partsL_over (c : UInt8) (n : Nat) (l : List UInt8) (h : n + 1 < (spl c [] l).length) : (partsL c n l).length = n + 1 ∧ ∃ p ∈ partsL c n l, c ∈ p := by
  have := spl_le c l []
  have e : min n l.length = n := by omega
  unfold partsL
  rw [e]
  exact splitK_over c n l h

theorem shortL_spl (l : List UInt8) : shortL l = if (spl 46 [] l).length = 4 then bytesGo one (spl 46 [] l) [] else none := by
  unfold shortL
  by_cases h : (spl 46 [] l).length ≤ 4 + 1
  · rw [partsL_spl 46 4 l h]
  · rw [if_neg (by have := (partsL_over 46 4 l (by omega)).1; omega), if_neg (by omega)]
theorem bytesGo_bad (f : List UInt8 → Option (List Int)) (p : List UInt8) (h : f p = none) : ∀ (ps : List (List UInt8)) (acc : List Int), p ∈ ps → bytesGo f ps acc = none
  | [], _, hm => by simp at hm
  | q :: ps, acc, hm => by
    rcases List.mem_cons.1 hm with e | hm
    · exact bytesGo_none (by rw [← e]; exact h)
    · cases hq : f q with
      | none => exact bytesGo_none hq
      | some bs => rw [bytesGo_some hq]; exact bytesGo_bad f p h ps _ hm
theorem grpGo_bad (b : UInt8) (hb : dgo b.toNat = false) : ∀ (l : List UInt8) (n : Int), b ∈ l → grpGo l n = none
  | [], _, hm => by simp at hm
  | q :: l, n, hm => by
    rw [grpGo_cons]
    rcases List.mem_cons.1 hm with e | hm
    · rw [← e, if_neg (by rw [hb]; simp)]
    · split
      · exact grpGo_bad b hb l _ hm
      · rfl
theorem numGo_bad (most : Int) (b : UInt8) (hb : dgo b.toNat = false) : ∀ (l : List UInt8) (i : Nat) (n : Int), b ∈ l → numGo most l i n = none
  | [], _, _, hm => by simp at hm
  | q :: l, i, n, hm => by
    rw [numGo_cons]
    rcases List.mem_cons.1 hm with e | hm
    · rw [← e, if_neg (by rw [hb]; simp)]
    · split
      · exact numGo_bad most b hb l _ _ hm
      · rfl
theorem two_bad (p : List UInt8) (h : (58 : UInt8) ∈ p) : two p = none := by
  have e : grpL p = none := by
    unfold grpL
    split
    · rfl
    · exact grpGo_bad 58 (by decide) p 0 h
  unfold two
  rw [e]
  rfl
theorem one_bad (p : List UInt8) (h : (58 : UInt8) ∈ p) : one p = none := by
  have e : numL 255 p = none := by
    unfold numL
    split
    · rfl
    · exact numGo_bad 255 58 (by decide) p 0 0 h
  unfold one
  rw [e]
  rfl
/-- Groups with colons between, all of them; none of an empty text. -/
def someL (l : List UInt8) : Option (List Int) := if l = [] then some [] else bytesGo two (spl 58 [] l) []
theorem grsL_spl (l : List UInt8) : grsL l = if (spl 58 [] l).length ≤ 9 then someL l else none := by
  unfold grsL someL
  by_cases h0 : l = []
  · subst h0
    rw [if_pos rfl, if_pos rfl, if_pos (by simp [spl_nil])]
  · rw [if_neg h0, if_neg h0]
    by_cases h : (spl 58 [] l).length ≤ 9
    · rw [partsL_spl 58 8 l h, if_pos h]
    · rw [if_neg h]
      obtain ⟨_, p, p1, p2⟩ := partsL_over 58 8 l (by omega)
      exact bytesGo_bad two p (two_bad p p2) _ _ p1
theorem someL_len (l : List UInt8) (a : List Int) (h : someL l = some a) : (l = [] ∧ a = []) ∨ (l ≠ [] ∧ a.length = 2 * (spl 58 [] l).length) := by
  unfold someL at h
  by_cases h0 : l = []
  · rw [if_pos h0] at h
    exact Or.inl ⟨h0, (Option.some.inj h).symm⟩
  · rw [if_neg h0] at h
    have := two_len _ _ _ h
    simp only [List.length_nil, Nat.zero_add] at this
    exact Or.inr ⟨h0, this⟩
theorem someL_grs (l : List UInt8) (a : List Int) (h : someL l = some a) (ha : a.length ≤ 18) : grsL l = some a := by
  rw [grsL_spl, if_pos ?_, h]
  rcases someL_len l a h with ⟨h1, _⟩ | ⟨_, h1⟩
  · subst h1
    simp [spl_nil]
  · omega
theorem grs_someL (l : List UInt8) (a : List Int) (h : grsL l = some a) : someL l = some a := by
  rw [grsL_spl] at h
  split at h
  · exact h
  · cases h
theorem someL_even (l : List UInt8) (a : List Int) (h : someL l = some a) : a.length % 2 = 0 := by
  rcases someL_len l a h with ⟨_, rfl⟩ | ⟨_, h1⟩
  · rfl
  · omega
/-- An address of eight groups, as the document's answer has it. -/
def eightL (l : List UInt8) : Option (List Int) :=
  if Lib.index l [58, 58] < 0 then (match someL l with | some b => if b.length = 16 then some b else none | none => none)
  else match someL (l.take (Lib.index l [58, 58]).toNat), someL (l.drop ((Lib.index l [58, 58]).toNat + 2)) with
    | some a, some b => if a.length + b.length ≤ 14 then some (a ++ List.replicate (16 - a.length - b.length) 0 ++ b) else none
    | _, _ => none
theorem grsL_nil : grsL [] = some [] := rfl
theorem eight_long (l : List UInt8) : eightL l = longL l := by
  unfold eightL longL Lib.cut
  by_cases hi : Lib.index l [58, 58] < 0
  · rw [if_pos hi, if_neg (by omega)]
    simp only [grsL_nil]
    cases hs : someL l with
    | none =>
      have hg : grsL l = none := by
        cases hg : grsL l with
        | none => rfl
        | some a => rw [grs_someL l a hg] at hs; cases hs
      rw [hg]
    | some b =>
      simp only
      by_cases hb : b.length = 16
      · rw [if_pos hb, someL_grs l b hs (by omega)]
        simp only [List.length_nil, Nat.add_zero, hb]
        simp
      · rw [if_neg hb]
        cases hg : grsL l with
        | none => rfl
        | some a =>
          have := grs_someL l a hg
          rw [hs] at this
          obtain rfl := Option.some.inj this
          simp only [List.length_nil, Nat.add_zero]
          rw [if_neg]
          rintro ⟨h1, h2⟩
          have h3 := h2.symm
          rw [decide_eq_false_iff_not] at h3
          omega
  · rw [if_neg hi, if_pos (by omega)]
    simp only [List.length_cons, List.length_nil, Nat.zero_add]
    generalize l.take (Lib.index l [58, 58]).toNat = x
    generalize l.drop ((Lib.index l [58, 58]).toNat + 2) = y
    cases hx : someL x with
    | none =>
      have hg : grsL x = none := by
        cases hg : grsL x with
        | none => rfl
        | some a => rw [grs_someL x a hg] at hx; cases hx
      rw [hg]
    | some a =>
      cases hy : someL y with
      | none =>
        have hg : grsL y = none := by
          cases hg : grsL y with
          | none => rfl
          | some a => rw [grs_someL y a hg] at hy; cases hy
        rw [hg]
        cases grsL x <;> rfl
      | some b =>
        simp only
        by_cases hl : a.length + b.length ≤ 14
        · rw [if_pos hl, someL_grs x a hx (by omega), someL_grs y b hy (by omega)]
          simp only
          rw [if_pos ⟨by omega, by simp; omega⟩]
        · rw [if_neg hl]
          cases hg : grsL x with
          | none => rfl
          | some a2 =>
            have e1 := grs_someL x a2 hg
            rw [hx] at e1
            obtain rfl := Option.some.inj e1
            cases hh : grsL y with
            | none => rfl
            | some b2 =>
              have e2 := grs_someL y b2 hh
              rw [hy] at e2
              obtain rfl := Option.some.inj e2
              simp only
              rw [if_neg]
              rintro ⟨h1, h2⟩
              have h3 := h2.symm
              rw [decide_eq_true_iff] at h3
              have m1 := someL_even x a hx
              have m2 := someL_even y b hy
              omega
theorem colon_short (l : List UInt8) (h : (58 : UInt8) ∈ l) : shortL l = none := by
  rw [shortL_spl]
  split
  · obtain ⟨p, p1, p2⟩ := spl_mem 46 58 (by decide) l [] (Or.inr h)
    exact bytesGo_bad one p (one_bad p p2) _ _ p1
  · rfl
theorem idx2_miss (c : UInt8) : ∀ l : List UInt8, c ∉ l → Lib.index l [c, c] = -1
  | [], _ => rfl
  | b :: l, h => by
    have h2 : ¬ c = b := fun e => h (by simp [e])
    rw [idx2_cons c b l (by simp [List.isPrefixOf, h2]), idx2_miss c l (fun e => h (by simp [e]))]
    rfl
theorem free_long (l : List UInt8) (h : (58 : UInt8) ∉ l) : longL l = none := by
  rw [← eight_long]
  unfold eightL
  rw [idx2_miss 58 l h, if_pos (by decide)]
  cases hs : someL l with
  | none => rfl
  | some a =>
    simp only
    rw [if_neg]
    rcases someL_len l a hs with ⟨_, rfl⟩ | ⟨_, h1⟩
    · simp
    · rw [spl_none 58 l [] h] at h1
      simp at h1
      omega
/-- A text's address, as the document's answer has it. -/
def refA (l : List UInt8) : Option Ad := if 0 ≤ Lib.index l [58] then (eightL l).map fun bs => fromv (at0 bs) true else (shortL l).map fun bs => fromv (at0 bs) false
theorem refA_eq (l : List UInt8) : refA l = parseA l := by
  unfold refA
  by_cases m : (58 : UInt8) ∈ l
  · have hi : 0 ≤ Lib.index l [58] := by
      obtain ⟨x, r, rfl, hx⟩ := mem_at 58 l m
      rw [index_one_at 58 r x hx]
      omega
    rw [if_pos hi, eight_long]
    unfold parseA
    rw [colon_short l m]
  · rw [if_neg (by rw [index_one_none 58 l m]; decide)]
    unfold parseA
    rw [free_long l m]
    cases shortL l <;> rfl

/-- A number of digits, however great. -/
def decV : List UInt8 → Int → Option Int
  | [], n => some n
  | b :: l, n => if 48 ≤ b.toNat ∧ b.toNat ≤ 57 then decV l (n * 10 + ((b.toNat : Int) - 48)) else none
theorem decV_nil (n : Int) : decV [] n = some n := rfl
theorem decV_cons (b : UInt8) (l : List UInt8) (n : Int) : decV (b :: l) n = if 48 ≤ b.toNat ∧ b.toNat ≤ 57 then decV l (n * 10 + ((b.toNat : Int) - 48)) else none := rfl
theorem dg_ten (b : UInt8) : (dgo b.toNat = true ∧ dgv b.toNat ≤ 9) ↔ (48 ≤ b.toNat ∧ b.toNat ≤ 57) := by
  unfold dgo dgv
  simp only [Bool.or_eq_true, decide_eq_true_eq]
  constructor
  · rintro ⟨h1, h2⟩
    split at h2
    · omega
    · split at h2
      · omega
      · split at h2 <;> omega
  · rintro ⟨h1, h2⟩
    rw [if_pos ⟨by omega, by omega⟩]
    omega
theorem dg_val (b : UInt8) (h : 48 ≤ b.toNat ∧ b.toNat ≤ 57) : dgv b.toNat = (b.toNat : Int) - 48 := by
  unfold dgv
  rw [if_pos ⟨by omega, by omega⟩]
theorem decV_ge : ∀ (l : List UInt8) (n x : Int), 0 ≤ n → decV l n = some x → n ≤ x
  | [], n, x, _, h => by
    have := Option.some.inj h
    omega
  | b :: l, n, x, h0, h => by
    rw [decV_cons] at h
    split at h
    · have := decV_ge l _ x (by omega) h
      omega
    · cases h
theorem numGo_dec (most : Int) : ∀ (l : List UInt8) (i : Nat) (n : Int), 0 ≤ n → n ≤ most → (0 < i → n = 0 → l = []) → (i = 0 → n = 0 → l.head? = some 48 → l.length ≤ 1) → numGo most l i n = (decV l n).bind fun x => if x ≤ most then some x else none
  | [], i, n, h0, h1, _, _ => by simp [numGo_nil, decV_nil, h1]
  | b :: l, i, n, h0, h1, h2, h3 => by
    rw [numGo_cons, decV_cons]
    by_cases hb : 48 ≤ b.toNat ∧ b.toNat ≤ 57
    · obtain ⟨hb1, hb2⟩ := (dg_ten b).2 hb
      rw [if_pos hb, dg_val b hb]
      have hz : ¬ (0 < i ∧ n = 0) := fun ⟨z1, z2⟩ => by have := h2 z1 z2; cases this
      by_cases hm : n * 10 + ((b.toNat : Int) - 48) ≤ most
      · rw [if_pos ⟨hb1, by omega, hz, hm⟩]
        refine numGo_dec most l (i + 1) _ (by omega) hm ?_ (fun e => by omega)
        intro _ e
        have en : n = 0 := by omega
        have eb : b = 48 := by
          have : b.toNat = 48 := by omega
          exact UInt8.toNat_inj.1 this
        have ei : i = 0 := by
          by_cases z : 0 < i
          · exact absurd ⟨z, en⟩ hz
          · omega
        have := h3 ei en (by simp [eb])
        simp only [List.length_cons] at this
        exact List.length_eq_zero_iff.1 (by omega)
      · rw [if_neg (fun h => hm h.2.2.2)]
        cases hd : decV l (n * 10 + ((b.toNat : Int) - 48)) with
        | none => rfl
        | some x =>
          have := decV_ge l _ x (by omega) hd
          simp only [Option.bind_some]
          rw [if_neg (by omega)]
    · rw [if_neg hb, if_neg (fun h => hb ((dg_ten b).1 ⟨h.1, h.2.1⟩))]
      rfl
theorem numL_dec3 (most : Int) (hm : 0 ≤ most) (l : List UInt8) (h0 : l ≠ []) (h1 : l.head? = some 48 → l.length ≤ 1) : numL most l = (decV l 0).bind fun x => if x ≤ most then some x else none := by
  unfold numL
  rw [if_neg h0]
  exact numGo_dec most l 0 0 (Int.le_refl _) hm (fun h => by omega) (fun _ _ => h1)
theorem numGo_ge (most : Int) : ∀ (l : List UInt8) (i : Nat) (n x : Int), 0 ≤ n → numGo most l i n = some x → n * 10 ^ l.length ≤ x
  | [], i, n, x, _, h => by
    have := Option.some.inj h
    simp
    omega
  | b :: l, i, n, x, h0, h => by
    rw [numGo_cons] at h
    split at h
    case isTrue c =>
      have hd := (dgv_bd b.toNat).1
      have h2 := numGo_ge most l (i + 1) _ x (by omega) h
      have h3 : n * 10 * (10 ^ l.length : Int) ≤ (n * 10 + dgv b.toNat) * (10 ^ l.length : Int) := Int.mul_le_mul_of_nonneg_right (by omega) (Int.le_of_lt (Int.pow_pos (by decide)))
      rw [List.length_cons, Int.pow_succ, Int.mul_comm (10 ^ l.length : Int) 10, ← Int.mul_assoc]
      omega
    case isFalse c => cases h
theorem numL_long (most : Int) (h9 : most ≤ 999) (l : List UInt8) (h : 3 < l.length) : numL most l = none := by
  unfold numL
  split
  · rfl
  match l, h with
  | b :: c :: r, h =>
    rw [numGo_cons]
    split
    case isFalse => rfl
    case isTrue z =>
      have hb := (dgv_bd b.toNat).1
      cases hx : numGo most (c :: r) (0 + 1) (0 * 10 + dgv b.toNat) with
      | none => rfl
      | some x =>
        exfalso
        have hz : ¬ (0 * 10 + dgv b.toNat) = 0 := by
          intro e
          rw [numGo_cons, if_neg (fun q => q.2.2.1 ⟨by omega, e⟩)] at hx
          cases hx
        have h1 := numGo_ge most (c :: r) _ _ x (by omega) hx
        have h2 := (numGo_bd most (c :: r) _ _ x (by omega) z.2.2.2 hx).2
        simp only [List.length_cons] at h h1
        obtain ⟨k, hk⟩ : ∃ k, r.length + 1 = k + 3 := ⟨r.length - 2, by omega⟩
        have hp : (1 : Int) ≤ 10 ^ k := by
          have := Int.pow_pos (n := 10) (m := k) (by decide)
          omega
        have e1 : (10 : Int) ^ (k + 3) = 10 ^ k * 1000 := by rw [Int.pow_add]; rfl
        rw [hk, e1] at h1
        have h4 : (1 : Int) * 1000 ≤ (0 * 10 + dgv b.toNat) * (10 ^ k * 1000) := Int.mul_le_mul (by omega) (by omega) (by omega) (by omega)
        omega
theorem numL_zero (most : Int) (l : List UInt8) (h : 1 < l.length) (h0 : l.head? = some 48) : numL most l = none := by
  unfold numL
  split
  · rfl
  match l, h with
  | b :: c :: r, h =>
    have eb : b = 48 := by simpa using h0
    subst eb
    rw [numGo_cons]
    split
    case isFalse => rfl
    case isTrue z =>
      have e : (0 : Int) * 10 + dgv ((48 : UInt8).toNat : Int) = 0 := by decide
      rw [e, numGo_cons, if_neg (fun q => q.2.2.1 ⟨by omega, rfl⟩)]
/-- The longest run, as the document's answer has it. -/
def lngGo (Z : List Bool) : Nat → Nat → Nat → Nat
  | 0, _, b => b
  | k + 1, i, b => lngGo Z k (i + 1) (if runL (Z.drop b) < runL (Z.drop i) then i else b)
theorem lngGo_succ (Z : List Bool) (k i b : Nat) : lngGo Z (k + 1) i b = lngGo Z k (i + 1) (if runL (Z.drop b) < runL (Z.drop i) then i else b) := rfl
theorem lng_best (Z : List Bool) : ∀ (k i b : Nat), i + k = Z.length → bestGo (Z.drop i) i (b, b + runL (Z.drop b)) = (lngGo Z k i b, lngGo Z k i b + runL (Z.drop (lngGo Z k i b)))
  | 0, i, b, h => by
    rw [List.drop_eq_nil_of_le (by omega : Z.length ≤ i)]
    rfl
  | k + 1, i, b, h => by
    rw [bestGo_step Z i _ (by omega), lngGo_succ, ← lng_best Z k (i + 1) _ (by omega)]
    congr 1
    have e : (b, b + runL (Z.drop b)).2 - (b, b + runL (Z.drop b)).1 = runL (Z.drop b) := by simp
    rw [e]
    by_cases c : runL (Z.drop b) < runL (Z.drop i)
    · rw [if_pos c, if_pos c]
    · rw [if_neg c, if_neg c]
theorem lng_best0 (Z : List Bool) (h : 0 < Z.length) : bestGo Z 0 (0, 0) = (lngGo Z Z.length 0 0, lngGo Z Z.length 0 0 + runL (Z.drop (lngGo Z Z.length 0 0))) := by
  rw [← lng_best Z Z.length 0 0 (by omega)]
  have e : Z = Z.drop 0 := rfl
  obtain ⟨Y, hY⟩ : ∃ Y, Y = Z := ⟨_, rfl⟩
  have a1 := bestGo_step Z 0 (0, 0) h
  have a2 := bestGo_step Z 0 (0, 0 + runL (Z.drop 0)) h
  rw [List.drop_zero] at a1 a2
  rw [List.drop_zero, a1, a2]
  congr 1
  simp only [Nat.sub_zero, Nat.zero_add, Nat.lt_irrefl, if_false]
  by_cases c : 0 < runL Z
  · rw [if_pos c]
  · rw [if_neg c]
    congr 1
    omega
theorem join_snoc (c : UInt8) (x : List UInt8) : ∀ xs : List (List UInt8), xs ≠ [] → Lib.join (xs ++ [x]) [c] = Lib.join xs [c] ++ [c] ++ x
  | [], h => absurd rfl h
  | [y], _ => by
    rw [List.singleton_append, join_cons2, Lib.join_one, Lib.join_one]
    simp
  | y :: z :: r, _ => by
    rw [List.cons_append, List.cons_append, join_cons2, join_cons2, ← List.cons_append, join_snoc c x (z :: r) (by simp)]
    simp

end Go.Proofs.YtfebhfghjdedhaaDoor

namespace Go.Proofs.YtfebhfghjdedhaaDoor
open Go.RowKit
set_option maxRecDepth 100000

theorem ext_seg (s : ByteArray) (f k : Nat) : s.extract f k = ⟨((s.data.toList.drop f).take (k - f)).toArray⟩ := by
  apply ByteArray.ext
  rw [ByteArray.data_extract]
  apply Array.toList_inj.1
  rw [Array.toList_extract]
/-- The text's bytes from f to k. -/
def seg (s : ByteArray) (f k : Nat) : List UInt8 := (s.data.toList.drop f).take (k - f)
theorem seg_nil (s : ByteArray) (k : Nat) : seg s k k = [] := by simp [seg]
theorem seg_snoc (s : ByteArray) (f k : Nat) (h : f ≤ k) (hk : k < s.size) : seg s f (k + 1) = seg s f k ++ [s[k]] := by
  unfold seg
  rw [show k + 1 - f = (k - f) + 1 by omega, List.take_add_one, List.getElem?_drop, show f + (k - f) = k by omega]
  congr 1
  have h2 := drop_at s k hk
  have h3 : s.data.toList[k]? = some s[k] := by
    rw [← List.head?_drop, h2]
    rfl
  rw [h3]
  rfl

set_option maxHeartbeats 2000000 in
theorem refSplit_any (s : ByteArray) (b : UInt8) (hs : s.size ≤ 1000) (w : World) :
    Calls Tryd.prog 40 #[.string s, .int .u8 b.toNat] w fun e w' => ∃ v, e = .returned v ∧ w'.ownsRow w.heap.size 9 1 v (spl b [] s.data.toList).length (strv (spl b [] s.data.toList)) ∧ Below w.heap.size w w' := by
  obtain ⟨i0, hi0, hz0, hz1, hz2⟩ := info_parts info_str
  have ls : s.data.toList.length = s.size := by simp
  go_enter Tryd.func40, Tryd.ntmps40
  go_wp2_with fail
  go_loopw [5, 6, 7] (fun l f i wr => ∃ (k a : Nat) (out : List (List UInt8)), f = .int .i64 (a : Int) ∧ i = .int .i64 (k : Int) ∧ a ≤ k ∧ k ≤ s.size ∧ out.length ≤ k ∧ wr.ownsRow w.heap.size 9 1 l out.length (strv out) ∧ Below w.heap.size w wr ∧ Hid (out ++ spl b (seg s a k) (s.data.toList.drop k) = spl b [] s.data.toList)) (fun _ _ i _ => s.size - (intOf i).toNat)
  case atStart => exact ⟨0, 0, [], rfl, rfl, Nat.le_refl _, Nat.zero_le _, Nat.le_refl _, World.ownsRow_nil _ _ _ _, Below.refl _ _, Lib.hid (by rw [seg_nil, List.drop_zero]; rfl)⟩
  case round =>
    obtain ⟨k, a, out, rfl, rfl, hak, hk, hol, hown, hB, HG⟩ := hrel
    have Hown := Lib.hid hown
    have Hge := Lib.hid (own_ge hown)
    have hbase := hB.size
    clear hown
    by_cases hlt : k < s.size
    · have hlt' : (k : Int) < (s.size : Int) := by omega
      have hst := drop_at s k hlt
      have HG2 := HG.out
      rw [hst, spl_cons] at HG2
      clear HG hst
      by_cases hc : s[k]'hlt = b
      · rw [if_pos hc] at HG2
        have HG3 := Lib.hid (show (out ++ [seg s a k]) ++ spl b (seg s (k + 1) (k + 1)) (s.data.toList.drop (k + 1)) = spl b [] s.data.toList by rw [seg_nil, ← HG2]; simp)
        clear HG2
        have hc' : (((s[k]'hlt).toNat : Int) == (b.toNat : Int)) = true := by rw [hc]; simp
        clear hc
        go_wp2_with (
          at_builtin
          refine wpList_append_own _ rfl (.tmp 19) (.tmp 24) _ rfl w.heap.size 9 i0 _ 1 16 Tryd.underlying49 hi0 hz0 hz1 hz2 rfl (by omega) _ _ _ rfl (Hown.out.alloc _) ⟨wr.heap.size, 0, none⟩ 1 1 [.string (s.extract a k)] rfl rfl (World.news_of_block (cs := #[.string (s.extract a k)]) (t := 9) (fr := (0, 0)) (heap_alloc_new wr _)) (by simp [Value.oneCell']) (by simp only [maxLen]; omega) (by omega) (by simp; omega) ?_
          intro v1 w3 hown1 hg1 hat1
          have H1 := Lib.hid hown1
          have G1 := Lib.hid hg1
          clear hown1 hg1 hat1
          )
        have bX : Below w.heap.size w w3 := (hB.alloc (by omega) _).grown G1.out (by simp; omega) Hge.out
        refine ⟨⟨k + 1, k + 1, out ++ [seg s a k], by go_num, by go_num, Nat.le_refl _, by omega, by simp; omega, ?_, bX, HG3⟩, by simp [intOf]; omega⟩
        rw [List.length_append, strv_append]
        have h := H1.out
        rw [ext_seg] at h
        exact h
      · rw [if_neg hc, ← seg_snoc s a k hak hlt] at HG2
        have HG3 := Lib.hid HG2
        clear HG2
        have hc' : (((s[k]'hlt).toNat : Int) == (b.toNat : Int)) = false := by
          rw [beq_eq_false_iff_ne]
          intro e
          exact hc (UInt8.toNat_inj.1 (by omega))
        clear hc
        go_wp2_with fail
        refine ⟨⟨k + 1, a, out, rfl, by go_num, by omega, by omega, by omega, Hown.out, hB, HG3⟩, by simp [intOf]; omega⟩
    · have hlt' : ¬ (k : Int) < (s.size : Int) := by omega
      obtain rfl : k = s.size := by omega
      have HG2 := HG.out
      rw [List.drop_eq_nil_of_le (by omega), spl_nil] at HG2
      have HG3 := Lib.hid HG2.symm
      clear HG HG2
      go_wp2_with (
        at_builtin
        refine wpList_append_own _ rfl (.tmp 28) (.tmp 32) _ rfl w.heap.size 9 i0 _ 1 16 Tryd.underlying49 hi0 hz0 hz1 hz2 rfl (by omega) _ _ _ rfl (Hown.out.alloc _) ⟨wr.heap.size, 0, none⟩ 1 1 [.string (s.extract a s.size)] rfl rfl (World.news_of_block (cs := #[.string (s.extract a s.size)]) (t := 9) (fr := (0, 0)) (heap_alloc_new wr _)) (by simp [Value.oneCell']) (by simp only [maxLen]; omega) (by omega) (by simp; omega) ?_
        intro v1 w3 hown1 hg1 hat1
        have H1 := Lib.hid hown1
        have G1 := Lib.hid hg1
        clear hown1 hg1 hat1
        )
      have bX : Below w.heap.size w w3 := (hB.alloc (by omega) _).grown G1.out (by simp; omega) Hge.out
      go_ret
      refine ⟨_, rfl, ?_, bX⟩
      rw [HG3.out, List.length_append, strv_append]
      have h := H1.out
      rw [ext_seg] at h
      exact h

end Go.Proofs.YtfebhfghjdedhaaDoor

namespace Go.Proofs.YtfebhfghjdedhaaDoor
open Go.RowKit
set_option maxRecDepth 100000

theorem head_at (s : ByteArray) (h : 0 < s.size) : s.data.toList.head? = some s[0] := by
  have := drop_at s 0 h
  rw [List.drop_zero] at this
  rw [this]
  rfl
theorem decV_bd : ∀ (l : List UInt8) (n x : Int), 0 ≤ n → decV l n = some x → x < (n + 1) * 10 ^ l.length
  | [], n, x, _, h => by
    have := Option.some.inj h
    simp
    omega
  | b :: l, n, x, h0, h => by
    rw [decV_cons] at h
    split at h
    case isTrue c =>
      have h2 := decV_bd l _ x (by omega) h
      have h3 : (n * 10 + ((b.toNat : Int) - 48) + 1) * (10 ^ l.length : Int) ≤ ((n + 1) * 10) * (10 ^ l.length : Int) := Int.mul_le_mul_of_nonneg_right (by omega) (Int.le_of_lt (Int.pow_pos (by decide)))
      rw [List.length_cons, Int.pow_succ, Int.mul_comm (10 ^ l.length : Int) 10, ← Int.mul_assoc]
      omega
    case isFalse c => cases h

/-- The document's number: as the program's; -1: none. -/
def numR (most : Int) (l : List UInt8) : Int := (numL most l).getD (-1)
theorem numR_some {most x : Int} {l : List UInt8} (h : numL most l = some x) : numR most l = x := by unfold numR; rw [h]; rfl
theorem numR_none {most : Int} {l : List UInt8} (h : numL most l = none) : numR most l = -1 := by unfold numR; rw [h]; rfl

set_option maxHeartbeats 2000000 in
theorem refNumber_any (s : ByteArray) (most : Int) (hm0 : 0 ≤ most) (hm1 : most ≤ 999) (hs : s.size < 4294967281) (w : World) :
    Calls Tryd.prog 22 #[.string s, .int .i64 most] w fun e w' => e = .returned (.int .i64 (numR most s.data.toList)) ∧ w' = w := by
  have ls : s.data.toList.length = s.size := by simp
  by_cases h0 : s.size = 0
  · have hn : s.data.toList = [] := List.eq_nil_of_length_eq_zero (by omega)
    have hne : s = ByteArray.empty := ByteArray.ext (Array.toList_inj.1 (by rw [hn]; rfl))
    subst hne
    have HR := Lib.hid (show numR most (ByteArray.empty).data.toList = -1 from numR_none (by unfold numL; rw [if_pos hn]))
    clear hn h0 ls hs
    go_enter Tryd.func22, Tryd.ntmps22
    go_wp2
    go_ret
    exact ⟨by rw [HR.out]; rfl, rfl⟩
  · have hz1 : s.toList.isEmpty = false := by
      rw [ByteArray.toList_eq]
      cases hq : s.data.toList with
      | nil => rw [hq] at ls; simp at ls; omega
      | cons a b => rfl
    have hz2 : (s.toList == []) = false := by
      rw [ByteArray.toList_eq, beq_eq_false_iff_ne]
      intro e
      rw [e] at ls
      simp at ls
      omega
    have hz3 : ¬ s.toList = [] := by
      rw [ByteArray.toList_eq]
      intro e
      rw [e] at ls
      simp at ls
      omega
    by_cases h3 : 3 < s.size
    · have h3' : (3 : Int) < (s.size : Int) := by omega
      have HR := Lib.hid (show numR most s.data.toList = -1 from numR_none (numL_long most hm1 _ (by omega)))
      go_enter Tryd.func22, Tryd.ntmps22
      go_wp2
      go_ret
      exact ⟨by rw [HR.out]; rfl, rfl⟩
    · have h3' : ¬ (3 : Int) < (s.size : Int) := by omega
      have hp : 0 < s.size := by omega
      by_cases hld : 1 < s.size ∧ (s[0]'hp).toNat = 48
      · obtain ⟨hl1, hl0⟩ := hld
        have hl1' : (1 : Int) < (s.size : Int) := by omega
        have hl2 : (((s[0]'hp).toNat : Int) == 48) = true := by rw [beq_iff_eq]; omega
        have HR := Lib.hid (show numR most s.data.toList = -1 from numR_none (numL_zero most _ (by omega) (by rw [head_at s hp]; congr 1; exact UInt8.toNat_inj.1 hl0)))
        go_enter Tryd.func22, Tryd.ntmps22
        go_wp2
        go_ret
        exact ⟨by rw [HR.out]; rfl, rfl⟩
      · have HN := Lib.hid (show numL most s.data.toList = (decV s.data.toList 0).bind fun x => if x ≤ most then some x else none from numL_dec3 most hm0 _ (by intro e; rw [e] at ls; simp at ls; omega) (by
          intro e
          rw [head_at s hp] at e
          have e2 := Option.some.inj e
          by_cases q : 1 < s.size
          · exact absurd ⟨q, by rw [e2]; rfl⟩ hld
          · omega))
        have hor : (decide ((1 : Int) < (s.size : Int)) && (((s[0]'hp).toNat : Int) == 48)) = false := by
          cases hq : decide ((1 : Int) < (s.size : Int)) with
          | false => rfl
          | true =>
            rw [Bool.true_and, beq_eq_false_iff_ne]
            intro e
            exact hld ⟨by have := of_decide_eq_true hq; omega, by omega⟩
        by_cases hl1 : 1 < s.size
        · have hl1' : (1 : Int) < (s.size : Int) := by omega
          have hl2 : (((s[0]'hp).toNat : Int) == 48) = false := by rw [beq_eq_false_iff_ne]; intro e; exact hld ⟨hl1, by omega⟩
          clear hor hld
          go_enter Tryd.func22, Tryd.ntmps22
          go_wp2_with fail
          go_loopw [5, 6] (fun v i wr => ∃ (k : Nat) (n : Int), v = .int .i64 n ∧ i = .int .i64 (k : Int) ∧ k ≤ s.size ∧ 0 ≤ n ∧ n < 10 ^ k ∧ Hid (decV (s.data.toList.drop k) n = decV s.data.toList 0) ∧ wr = w) (fun _ i _ => s.size - (intOf i).toNat)
          case atStart => exact ⟨0, 0, rfl, rfl, Nat.zero_le _, Int.le_refl _, by decide, Lib.hid rfl, rfl⟩
          case round =>
            obtain ⟨k, n, rfl, rfl, hk, hn0, hn1, HG, rfl⟩ := hrel
            have hn2 : n < 1000 := by
              have hk3 : k = 0 ∨ k = 1 ∨ k = 2 ∨ k = 3 := by omega
              clear HG
              rcases hk3 with rfl | rfl | rfl | rfl <;> simp at hn1 <;> omega
            by_cases hlt : k < s.size
            · have hlt' : (k : Int) < (s.size : Int) := by omega
              have hst := drop_at s k hlt
              obtain ⟨r, hr⟩ : ∃ r : Nat, r = (s[k]'hlt).toNat := ⟨_, rfl⟩
              have hr2 : r < 256 := by rw [hr]; exact UInt8.toNat_lt _
              have HG2 := HG.out
              rw [hst, decV_cons, ← hr] at HG2
              clear HG hst
              by_cases hd : 48 ≤ r ∧ r ≤ 57
              · rw [if_pos hd] at HG2
                have HG3 := Lib.hid HG2
                clear HG2
                obtain ⟨hd1, hd2⟩ := hd
                have hd1' : ¬ (r : Int) < 48 := by omega
                have hd2' : ¬ (57 : Int) < (r : Int) := by omega
                have hp1 : n * 10 + ((r : Int) - 48) < 10 ^ (k + 1) := by
                  have : (10 : Int) ^ (k + 1) = 10 ^ k * 10 := Int.pow_succ 10 k
                  omega
                rw [hr] at hd1' hd2'
                go_wp2_with fail
                go_roundw
                case rel => exact ⟨k + 1, n * 10 + ((r : Int) - 48), by rw [hr], by go_num, by omega, by omega, hp1, HG3, trivial⟩
                case measure => simp [intOf]; omega
              · rw [if_neg hd] at HG2
                have HR := Lib.hid (show numR most s.data.toList = -1 from numR_none (by rw [HN.out, ← HG2]; rfl))
                clear HG2
                by_cases hd1 : r < 48
                · have hd1' : (r : Int) < 48 := by omega
                  rw [hr] at hd1'
                  go_wp2
                  go_ret
                  exact ⟨by rw [HR.out]; rfl, rfl⟩
                · have hd1' : ¬ (r : Int) < 48 := by omega
                  have hd2' : (57 : Int) < (r : Int) := by omega
                  rw [hr] at hd1' hd2'
                  go_wp2
                  go_ret
                  exact ⟨by rw [HR.out]; rfl, rfl⟩
            · have hlt' : ¬ (k : Int) < (s.size : Int) := by omega
              have HG2 := HG.out
              rw [List.drop_eq_nil_of_le (by omega), decV_nil] at HG2
              clear HG
              by_cases hm : n ≤ most
              · have hm' : ¬ most < n := by omega
                have HR := Lib.hid (show numR most s.data.toList = n from numR_some (by rw [HN.out, ← HG2]; simp [hm]))
                clear HG2
                go_wp2
                go_ret
                exact ⟨by rw [HR.out]; rfl, rfl⟩
              · have hm' : most < n := by omega
                have HR := Lib.hid (show numR most s.data.toList = -1 from numR_none (by rw [HN.out, ← HG2]; simp [hm]))
                clear HG2
                go_wp2
                go_ret
                exact ⟨by rw [HR.out]; rfl, rfl⟩
        · have hl1' : ¬ (1 : Int) < (s.size : Int) := by omega
          clear hor hld
          go_enter Tryd.func22, Tryd.ntmps22
          go_wp2_with fail
          go_loopw [5, 6] (fun v i wr => ∃ (k : Nat) (n : Int), v = .int .i64 n ∧ i = .int .i64 (k : Int) ∧ k ≤ s.size ∧ 0 ≤ n ∧ n < 10 ^ k ∧ Hid (decV (s.data.toList.drop k) n = decV s.data.toList 0) ∧ wr = w) (fun _ i _ => s.size - (intOf i).toNat)
          case atStart => exact ⟨0, 0, rfl, rfl, Nat.zero_le _, Int.le_refl _, by decide, Lib.hid rfl, rfl⟩
          case round =>
            obtain ⟨k, n, rfl, rfl, hk, hn0, hn1, HG, rfl⟩ := hrel
            have hn2 : n < 1000 := by
              have hk3 : k = 0 ∨ k = 1 ∨ k = 2 ∨ k = 3 := by omega
              clear HG
              rcases hk3 with rfl | rfl | rfl | rfl <;> simp at hn1 <;> omega
            by_cases hlt : k < s.size
            · have hlt' : (k : Int) < (s.size : Int) := by omega
              have hst := drop_at s k hlt
              obtain ⟨r, hr⟩ : ∃ r : Nat, r = (s[k]'hlt).toNat := ⟨_, rfl⟩
              have hr2 : r < 256 := by rw [hr]; exact UInt8.toNat_lt _
              have HG2 := HG.out
              rw [hst, decV_cons, ← hr] at HG2
              clear HG hst
              by_cases hd : 48 ≤ r ∧ r ≤ 57
              · rw [if_pos hd] at HG2
                have HG3 := Lib.hid HG2
                clear HG2
                obtain ⟨hd1, hd2⟩ := hd
                have hd1' : ¬ (r : Int) < 48 := by omega
                have hd2' : ¬ (57 : Int) < (r : Int) := by omega
                have hp1 : n * 10 + ((r : Int) - 48) < 10 ^ (k + 1) := by
                  have : (10 : Int) ^ (k + 1) = 10 ^ k * 10 := Int.pow_succ 10 k
                  omega
                rw [hr] at hd1' hd2'
                go_wp2_with fail
                go_roundw
                case rel => exact ⟨k + 1, n * 10 + ((r : Int) - 48), by rw [hr], by go_num, by omega, by omega, hp1, HG3, trivial⟩
                case measure => simp [intOf]; omega
              · rw [if_neg hd] at HG2
                have HR := Lib.hid (show numR most s.data.toList = -1 from numR_none (by rw [HN.out, ← HG2]; rfl))
                clear HG2
                by_cases hd1 : r < 48
                · have hd1' : (r : Int) < 48 := by omega
                  rw [hr] at hd1'
                  go_wp2
                  go_ret
                  exact ⟨by rw [HR.out]; rfl, rfl⟩
                · have hd1' : ¬ (r : Int) < 48 := by omega
                  have hd2' : (57 : Int) < (r : Int) := by omega
                  rw [hr] at hd1' hd2'
                  go_wp2
                  go_ret
                  exact ⟨by rw [HR.out]; rfl, rfl⟩
            · have hlt' : ¬ (k : Int) < (s.size : Int) := by omega
              have HG2 := HG.out
              rw [List.drop_eq_nil_of_le (by omega), decV_nil] at HG2
              clear HG
              by_cases hm : n ≤ most
              · have hm' : ¬ most < n := by omega
                have HR := Lib.hid (show numR most s.data.toList = n from numR_some (by rw [HN.out, ← HG2]; simp [hm]))
                clear HG2
                go_wp2
                go_ret
                exact ⟨by rw [HR.out]; rfl, rfl⟩
              · have hm' : most < n := by omega
                have HR := Lib.hid (show numR most s.data.toList = -1 from numR_none (by rw [HN.out, ← HG2]; simp [hm]))
                clear HG2
                go_wp2
                go_ret
                exact ⟨by rw [HR.out]; rfl, rfl⟩

/-- Where the longest run is, as the document's answer has it. -/
def lngAt (us : List Nat) : Nat := lngGo (zg us) us.length 0 0
theorem lngGo_le (Z : List Bool) : ∀ (k i b : Nat), i + k = Z.length → b < Z.length → lngGo Z k i b < Z.length
  | 0, i, b, _, hb => hb
  | k + 1, i, b, h, hb => by
    rw [lngGo_succ]
    refine lngGo_le Z k (i + 1) _ (by omega) ?_
    split <;> omega

set_option maxHeartbeats 2000000 in
theorem longest_any (g c : Nat) (us : List Nat) (h0 : 0 < us.length) (hn : us.length ≤ 100) (w : World) (hcell : ∀ (j : Nat) (u : Nat), us[j]? = some u → w.cell? ⟨g, j, none⟩ = some (.int .i64 (u : Int))) :
    Calls Tryd.prog 30 #[.slice (some ⟨g, 0, none⟩) us.length c] w fun e w' => e = .returned (.tuple #[.int .i64 (lngAt us : Nat), .int .i64 (runL ((zg us).drop (lngAt us)) : Nat)]) ∧ w' = w := by
  have Hcell := Lib.hid hcell
  have hzl : (zg us).length = us.length := by simp [zg]
  clear hcell
  go_enter Tryd.func30, Tryd.ntmps30
  go_wp2_with fail
  go_loopw [4, 5] (fun v i wr => ∃ (k b : Nat), k ≤ us.length ∧ b < us.length ∧ v = .int .i64 (b : Int) ∧ i = .int .i64 (k : Int) ∧ Hid (lngGo (zg us) (us.length - k) k b = lngAt us) ∧ wr = w) (fun _ i _ => us.length - (intOf i).toNat)
  case atStart => exact ⟨0, 0, by omega, h0, rfl, rfl, Lib.hid rfl, rfl⟩
  case round =>
    obtain ⟨k, b, hk, hb, rfl, rfl, HG, rfl⟩ := hrel
    by_cases hlt : k < us.length
    · have hlt' : (k : Int) < (us.length : Int) := by omega
      have HG2 := HG.out
      rw [show us.length - k = (us.length - (k + 1)) + 1 by omega, lngGo_succ] at HG2
      clear HG
      by_cases hc : runL ((zg us).drop b) < runL ((zg us).drop k)
      · rw [if_pos hc] at HG2
        have HG3 := Lib.hid HG2
        clear HG2
        have hc' : (runL ((zg us).drop b) : Int) < (runL ((zg us).drop k) : Int) := by omega
        go_wp2_with (go_at_call 54; refine (zeros_any g c _ us (by omega) hn _ Hcell.out).mono ?_; rintro e w2 ⟨rfl, rfl⟩)
        go_roundw
        case rel => exact ⟨k + 1, k, by omega, by omega, rfl, by go_num, HG3, trivial⟩
        case measure => simp [intOf]; omega
      · rw [if_neg hc] at HG2
        have HG3 := Lib.hid HG2
        clear HG2
        have hc' : ¬ (runL ((zg us).drop b) : Int) < (runL ((zg us).drop k) : Int) := by omega
        go_wp2_with (go_at_call 54; refine (zeros_any g c _ us (by omega) hn _ Hcell.out).mono ?_; rintro e w2 ⟨rfl, rfl⟩)
        go_roundw
        case rel => exact ⟨k + 1, b, by omega, hb, rfl, by go_num, HG3, trivial⟩
        case measure => simp [intOf]; omega
    · have hlt' : ¬ (k : Int) < (us.length : Int) := by omega
      have HG2 := HG.out
      rw [show us.length - k = 0 by omega] at HG2
      have HG3 : b = lngAt us := HG2
      clear HG HG2
      subst HG3
      go_wp2_with (go_at_call 54; refine (zeros_any g c _ us (by omega) hn _ Hcell.out).mono ?_; rintro e w2 ⟨rfl, rfl⟩)
      refine bodyPost_ret (v := .tuple #[.int .i64 (lngAt us : Nat), .int .i64 (runL ((zg us).drop (lngAt us)) : Nat)]) (by simp [*, results, Tryd.results30, go_sem] <;> rfl) rfl ⟨rfl, rfl⟩

end Go.Proofs.YtfebhfghjdedhaaDoor
