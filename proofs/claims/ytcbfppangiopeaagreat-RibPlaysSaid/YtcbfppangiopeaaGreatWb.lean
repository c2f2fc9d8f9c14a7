/-
  What Sane and Bit of package addr return. No condition.
-/
import Derived.Test.YtcbfppangiopeaaGreatWa
import Derived.Test.YtcbfppangiopeaaGreatEq
namespace Go.Proofs.YtcbfppangiopeaaGreat
open Go.RowKit

def saneB (a : Ad) : Bool := (u (norm a).hi == u a.hi) && (u (norm a).lo == u a.lo)

def wordOf (a : Ad) (i : Int) : BitVec 64 := if i < 64 then a.hi else a.lo
def bitv (a : Ad) (i : Int) : Int := if inW a.v6 i = true then u (wordOf (norm a) i >>> (plc i).toNat &&& 1#64) else 0

theorem u_and1 (x : BitVec 64) : bits .and .u64 (u x) 1 = u (x &&& 1#64) := u_and x 1#64
theorem shr_of (x : BitVec 64) (c : Int) : u x / 2 ^ c.toNat = u (x >>> c.toNat) := u_shr _ _
theorem u_bit (x : BitVec 64) : 0 ≤ u (x &&& 1#64) ∧ u (x &&& 1#64) ≤ 1 := by
  have h : (x &&& 1#64).toNat ≤ 1 := by
    rw [BitVec.toNat_and]
    exact Nat.and_le_right
  unfold u
  omega
theorem inW_bd {v : Bool} {i : Int} (h : inW v i = true) : 0 ≤ i ∧ i < 128 := by
  have := wid_bd v
  simp [inW] at h
  omega
theorem plc_bd (i : Int) : 0 ≤ plc i ∧ plc i ≤ 63 := by unfold plc; omega

set_option maxHeartbeats 400000 in
theorem bit_any (a : Ad) (i : Int) (w : World) :
    Calls Tryz.prog 90 #[.agg #[.int .u64 (u a.hi), .int .u64 (u a.lo), .bool a.v6], .int .i64 i] w fun e w' => e = .returned (.int .i64 (bitv a i)) ∧ Below w.heap.size w w' := by
  cases hin : inW a.v6 i
  · have hv : Hid (bitv a i = 0) := by unfold bitv; rw [hin]; rfl
    have hin' := Lib.hid hin
    clear hin
    go_enter Tryz.func90, Tryz.ntmps90
    go_wp2_with fail
    refine (there_any a i _).mono ?_
    rintro e w1 ⟨rfl, hw1⟩
    have zw1 := hw1.size
    have bw1 := below_of (w := w) (by go_grown) hw1
    try simp at zw1
    rw [hin'.out]
    go_wp2
    go_ret
    exact ⟨ret_int hv.out.symm, bw1⟩
  · obtain ⟨h0, h1⟩ := inW_bd hin
    obtain ⟨p0, p1⟩ := plc_bd i
    have hin' := Lib.hid hin
    clear hin
    by_cases h64 : i < 64
    · have hv : Hid (bitv a i = u ((norm a).hi >>> (plc i).toNat &&& 1#64)) := by unfold bitv wordOf; rw [if_pos hin'.out, if_pos h64]; rfl
      have hq : i / 64 = 0 := by omega
      have hm : min (plc i).toNat 64 = (plc i).toNat := by omega
      have hs := shr_of (norm a).hi (plc i)
      have h1' := u_and1 ((norm a).hi >>> (plc i).toNat)
      obtain ⟨c0, c1⟩ := u_bit ((norm a).hi >>> (plc i).toNat)
      go_enter Tryz.func90, Tryz.ntmps90
      go_wp2_with fail
      refine (there_any a i _).mono ?_
      rintro e w1 ⟨rfl, hw1⟩
      have zw1 := hw1.size
      have bw1 := below_of (w := w) (by go_grown) hw1
      try simp at zw1
      rw [hin'.out]
      obtain ⟨pa, pb, pc, pd, pe, pf, pz⟩ := cells3 (b := w.heap.size) hw1 (by go_size) (by go_simp <;> rfl) (by go_simp <;> rfl) (by go_simp <;> rfl) (by go_simp <;> rfl) (by go_simp <;> rfl) (by go_simp <;> rfl)
      clear hw1
      go_wp2_with fail
      refine (split_any a _).mono ?_
      rintro e w2 ⟨rfl, hw2⟩
      have zw2 := hw2.size
      have bw2 := below_of (w := w) (by go_grown) hw2
      try simp at zw2
      clear hw2
      go_wp2_with fail
      generalize hW : World.alloc _ _ = W
      have hz : w.heap.size ≤ W.heap.size := by subst hW; go_size
      have hB : Below w.heap.size w W := by subst hW; go_grown
      obtain ⟨ka, kb⟩ := lat2 (W := W) (b := w2.heap.size) (by subst hW; go_size) (by subst hW; go_simp <;> rfl) (by subst hW; go_simp <;> rfl)
      clear hW
      refine region_later W.heap.size (by kernel_rfl) (by kernel_rfl) ?_
      repeat (go_big_quiet_step ((go_at_call 32; exact later_same (place_any i h0 h1 _))))
      refine wpQuiet_nil ?_
      intro x
      have hx : Below w.heap.size w x.at := hB.trans (x.below.mono hz)
      go_wp2
      go_ret
      exact ⟨ret_int hv.out.symm, hx⟩
    · have hv : Hid (bitv a i = u ((norm a).lo >>> (plc i).toNat &&& 1#64)) := by unfold bitv wordOf; rw [if_pos hin'.out, if_neg h64]; rfl
      have hq : i / 64 = 1 := by omega
      have hm : min (plc i).toNat 64 = (plc i).toNat := by omega
      have hs := shr_of (norm a).lo (plc i)
      have h1' := u_and1 ((norm a).lo >>> (plc i).toNat)
      obtain ⟨c0, c1⟩ := u_bit ((norm a).lo >>> (plc i).toNat)
      go_enter Tryz.func90, Tryz.ntmps90
      go_wp2_with fail
      refine (there_any a i _).mono ?_
      rintro e w1 ⟨rfl, hw1⟩
      have zw1 := hw1.size
      have bw1 := below_of (w := w) (by go_grown) hw1
      try simp at zw1
      rw [hin'.out]
      obtain ⟨pa, pb, pc, pd, pe, pf, pz⟩ := cells3 (b := w.heap.size) hw1 (by go_size) (by go_simp <;> rfl) (by go_simp <;> rfl) (by go_simp <;> rfl) (by go_simp <;> rfl) (by go_simp <;> rfl) (by go_simp <;> rfl)
      clear hw1
      go_wp2_with fail
      refine (split_any a _).mono ?_
      rintro e w2 ⟨rfl, hw2⟩
      have zw2 := hw2.size
      have bw2 := below_of (w := w) (by go_grown) hw2
      try simp at zw2
      clear hw2
      go_wp2_with fail
      generalize hW : World.alloc _ _ = W
      have hz : w.heap.size ≤ W.heap.size := by subst hW; go_size
      have hB : Below w.heap.size w W := by subst hW; go_grown
      obtain ⟨ka, kb⟩ := lat2 (W := W) (b := w2.heap.size) (by subst hW; go_size) (by subst hW; go_simp <;> rfl) (by subst hW; go_simp <;> rfl)
      clear hW
      refine region_later W.heap.size (by kernel_rfl) (by kernel_rfl) ?_
      repeat (go_big_quiet_step ((go_at_call 32; exact later_same (place_any i h0 h1 _))))
      refine wpQuiet_nil ?_
      intro x
      have hx : Below w.heap.size w x.at := hB.trans (x.below.mono hz)
      go_wp2
      go_ret
      exact ⟨ret_int hv.out.symm, hx⟩

end Go.Proofs.YtcbfppangiopeaaGreat
