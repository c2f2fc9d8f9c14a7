/-
  AddrBack returns true, whatever address, bytes and numbers. No condition.
-/
import Derived.Test.YteeeiobkjakmpaaMathF
import Derived.Test.YteeeiobkjakmpaaLawD
import Derived.Test.YteeeiobkjakmpaaRow
import Derived.Laws.BytesArg
import Derived.Deep.RegionHeld3
namespace Go.Proofs.Yteeeiobkjakmpaa
open Go.RowKit

theorem from_any (v : Bool) (g off c : Nat) (bs : Nat → Int) (hbs : ∀ j, j < nb v → 0 ≤ bs j ∧ bs j < 256) (w : World) (hg : g < w.heap.size) (hcell : ∀ j, j < nb v → w.cell? ⟨g, off + j, none⟩ = some (.int .u8 (bs j))) :
    Calls Try.prog 27 #[.slice (some ⟨g, off, none⟩) (nb v) c] w fun e w' => e = .returned (.tuple #[.agg #[.int .u64 (u (fromv bs v).hi), .int .u64 (u (fromv bs v).lo), .bool (fromv bs v).v6], .int .i64 0]) ∧ Below w.heap.size w w' := by
  cases v
  · exact from_four g off c bs hbs w hg hcell
  · exact from_six g off c bs hbs w hg hcell
set_option maxHeartbeats 400000 in
theorem refWidth_any (v : Bool) (w : World) :
    Calls Try.prog 26 #[.bool v] w fun e w' => e = .returned (.int .i64 (wid v)) ∧ w = w' := by
  cases v
  · go_enter Try.func26, Try.ntmps26
    go_wp2
    go_ret
    exact ⟨rfl, rfl⟩
  · go_enter Try.func26, Try.ntmps26
    go_wp2
    go_ret
    exact ⟨rfl, rfl⟩

set_option maxHeartbeats 2000000 in
set_option maxRecDepth 100000 in
theorem back_bad (a : Ad) (A : Option Addr) (len cap : Nat) (i v : Int) (w : World) (h4 : len ≠ 4) (h16 : len ≠ 16) :
    Calls Try.prog 5 #[.agg #[.int .u64 (u a.hi), .int .u64 (u a.lo), .bool a.v6], .slice A len cap, .int .i64 i, .int .i64 v] w fun e w' => e = .returned (.bool true) ∧ Below w.heap.size w w' := by
  obtain ⟨n0, n1⟩ := and_bd i
  have hwb := wid_bd a.v6
  have m0 : 0 ≤ bits .and .i64 i 65535 % wid a.v6 := Int.emod_nonneg _ (by omega)
  have m1 : bits .and .i64 i 65535 % wid a.v6 < wid a.v6 := Int.emod_lt_of_pos _ (by omega)
  obtain ⟨k, hk⟩ := Int.eq_ofNat_of_zero_le m0
  have hkw : k < wd a.v6 := by rw [hk, wid_wd] at m1; omega
  obtain ⟨s1, s2⟩ := set_told a k v hkw
  rw [← hk] at s1 s2
  have t1 : (bitv (setv a (bits .and .i64 i 65535 % wid a.v6) v) (bits .and .i64 i 65535 % wid a.v6) == bits .and .i64 v 1) = true := by simp [s1]
  have g2 : adB (u (setv (setv a (bits .and .i64 i 65535 % wid a.v6) v) (bits .and .i64 i 65535 % wid a.v6) (bitv a (bits .and .i64 i 65535 % wid a.v6))).hi) (u (setv (setv a (bits .and .i64 i 65535 % wid a.v6) v) (bits .and .i64 i 65535 % wid a.v6) (bitv a (bits .and .i64 i 65535 % wid a.v6))).lo) (setv (setv a (bits .and .i64 i 65535 % wid a.v6) v) (bits .and .i64 i 65535 % wid a.v6) (bitv a (bits .and .i64 i 65535 % wid a.v6))).v6 (u (norm a).hi) (u (norm a).lo) (norm a).v6 = true := (adEq_iff _ _).2 s2
  have g1 : adB (u (norm a).hi) (u (norm a).lo) (norm a).v6 (u a.hi) (u a.lo) a.v6 = saneB a := norm_eq_sane a
  have hx := fun (g : Nat) (W : World) hg hc => from_any a.v6 g 0 (nb a.v6) (byteAt a) (fun j _ => byteAt_bd a j) W hg hc
  rw [from_bytes] at hx
  have HX := Lib.hid hx
  clear hx s1 s2 hk hkw
  go_enter Try.func5, Try.ntmps5
  go_wp2_with fail
  refine (awake_any _).mono ?_
  rintro e w1 ⟨rfl, hw1⟩
  have zw1 := hw1.size
  have bw1 := below_of (w := w) (by go_grown) hw1
  try simp at zw1
  obtain ⟨pa, pb, pc, pd, pe, pf, pz⟩ := cells3 (b := w.heap.size) hw1 (by go_size) (by go_simp <;> rfl) (by go_simp <;> rfl) (by go_simp <;> rfl) (by go_simp <;> rfl) (by go_simp <;> rfl) (by go_simp <;> rfl)
  clear hw1
  go_wp2_with fail
  refine (bytes_any a _).mono ?_
  rintro e w2 ⟨g, rfl, hg, hrow, hw2⟩
  have bw2 := below_of (w := w) (by go_grown) hw2
  obtain ⟨p'a, p'b, p'c, p'd, p'e, p'f, p'z⟩ := cells3 (b := w.heap.size) hw2 (by go_size) (by go_simp <;> rfl) (by go_simp <;> rfl) (by go_simp <;> rfl) (by go_simp <;> rfl) (by go_simp <;> rfl) (by go_simp <;> rfl)
  clear hw2 pa pb pc pd pe pf pz
  have hgt := hrow.lt
  have Hrow := Lib.hid hrow
  clear hrow
  go_wp2_with fail
  refine (HX.out g _ ?_ ?_).mono ?_
  · exact hgt
  · intro j hj
    rw [Nat.zero_add]
    exact Hrow.out.cell hj
  rintro e w3 ⟨rfl, hw3⟩
  have bw3 := below_of (w := w) (by go_grown) hw3
  obtain ⟨pa, pb, pc, pd, pe, pf, pz⟩ := cells3 (b := w.heap.size) hw3 (by go_size) (by go_simp <;> rfl) (by go_simp <;> rfl) (by go_simp <;> rfl) (by go_simp <;> rfl) (by go_simp <;> rfl) (by go_simp <;> rfl)
  clear hw3 p'a p'b p'c p'd p'e p'f p'z hgt Hrow hg
  go_wp2_with fail
  refine (from_bad A len cap h4 h16 _).mono ?_
  rintro e w4 ⟨rfl, hw4⟩
  have bw4 := below_of (w := w) (by go_grown) hw4
  obtain ⟨p'a, p'b, p'c, p'd, p'e, p'f, p'z⟩ := cells3 (b := w.heap.size) hw4 (by go_size) (by go_simp <;> rfl) (by go_simp <;> rfl) (by go_simp <;> rfl) (by go_simp <;> rfl) (by go_simp <;> rfl) (by go_simp <;> rfl)
  obtain ⟨q'a, q'b, q'c, q'd, q'e, q'f, q'z⟩ := cells3 (b := w3.heap.size) hw4 (by go_size) (by go_simp <;> rfl) (by go_simp <;> rfl) (by go_simp <;> rfl) (by go_simp <;> rfl) (by go_simp <;> rfl) (by go_simp <;> rfl)
  clear hw4 pa pb pc pd pe pf pz
  go_wp2_with fail
  refine (refWidth_any a.v6 _).mono ?_
  rintro e w5 ⟨rfl, rfl⟩
  go_wp2_with fail
  refine (set_any a _ v _).mono ?_
  rintro e w5 ⟨rfl, hw5⟩
  have bw5 := below_of (w := w) (by go_grown) hw5
  obtain ⟨pa, pb, pc, pd, pe, pf, pz⟩ := cells3 (b := w.heap.size) hw5 (by go_size) (by go_simp <;> rfl) (by go_simp <;> rfl) (by go_simp <;> rfl) (by go_simp <;> rfl) (by go_simp <;> rfl) (by go_simp <;> rfl)
  obtain ⟨qa, qb, qc, qd, qe, qf, qz⟩ := cells3 (b := w3.heap.size) hw5 (by go_size) (by go_simp <;> rfl) (by go_simp <;> rfl) (by go_simp <;> rfl) (by go_simp <;> rfl) (by go_simp <;> rfl) (by go_simp <;> rfl)
  obtain ⟨ra, rb, rc, rd, re, rf, rz⟩ := cells3 (b := w4.heap.size) hw5 (by go_size) (by go_simp <;> rfl) (by go_simp <;> rfl) (by go_simp <;> rfl) (by go_simp <;> rfl) (by go_simp <;> rfl) (by go_simp <;> rfl)
  clear hw5 p'a p'b p'c p'd p'e p'f p'z q'a q'b q'c q'd q'e q'f q'z
  go_wp2_with fail
  generalize hW : World.alloc _ _ = W
  have hz : w.heap.size ≤ W.heap.size := by subst hW; go_size
  have hB : Below w.heap.size w W := by subst hW; go_grown
  obtain ⟨p'a, p'b, p'c, p'd, p'e, p'f, p'z⟩ := cells3 (W := W) (b := w.heap.size) (Below.refl _ W) (by subst hW; go_size) (by subst hW; go_simp <;> rfl) (by subst hW; go_simp <;> rfl) (by subst hW; go_simp <;> rfl) (by subst hW; go_simp <;> rfl) (by subst hW; go_simp <;> rfl) (by subst hW; go_simp <;> rfl)
  obtain ⟨q'a, q'b, q'c, q'd, q'e, q'f, q'z⟩ := cells3 (W := W) (b := w3.heap.size) (Below.refl _ W) (by subst hW; go_size) (by subst hW; go_simp <;> rfl) (by subst hW; go_simp <;> rfl) (by subst hW; go_simp <;> rfl) (by subst hW; go_simp <;> rfl) (by subst hW; go_simp <;> rfl) (by subst hW; go_simp <;> rfl)
  obtain ⟨r'a, r'b, r'c, r'd, r'e, r'f, r'z⟩ := cells3 (W := W) (b := w4.heap.size) (Below.refl _ W) (by subst hW; go_size) (by subst hW; go_simp <;> rfl) (by subst hW; go_simp <;> rfl) (by subst hW; go_simp <;> rfl) (by subst hW; go_simp <;> rfl) (by subst hW; go_simp <;> rfl) (by subst hW; go_simp <;> rfl)
  obtain ⟨s'a, s'b, s'c, s'd, s'e, s'f, s'z⟩ := cells3 (W := W) (b := w5.heap.size) (Below.refl _ W) (by subst hW; go_size) (by subst hW; go_simp <;> rfl) (by subst hW; go_simp <;> rfl) (by subst hW; go_simp <;> rfl) (by subst hW; go_simp <;> rfl) (by subst hW; go_simp <;> rfl) (by subst hW; go_simp <;> rfl)
  clear hW pa pb pc pd pe pf pz qa qb qc qd qe qf qz ra rb rc rd re rf rz
  have Lp'a := fun x : Later W.heap.size W => (x.cell p'z).trans p'a
  have Lp'b := fun x : Later W.heap.size W => (x.cell p'z).trans p'b
  have Lp'c := fun x : Later W.heap.size W => (x.cell p'z).trans p'c
  refine region_later W.heap.size (by kernel_rfl) (by kernel_rfl) ?_
  repeat (go_big_quiet_step (fail))
  refine wpQuiet_nil ?_
  intro x
  have hx : Below w.heap.size w x.at := hB.trans (x.below.mono hz)
  clear Lp'a Lp'b Lp'c
  obtain ⟨pa, pb, pc, pd, pe, pf, pz⟩ := cells3 x.below p'z p'a p'b p'c p'd p'e p'f
  clear p'a p'b p'c p'd p'e p'f p'z
  obtain ⟨qa, qb, qc, qd, qe, qf, qz⟩ := cells3 x.below q'z q'a q'b q'c q'd q'e q'f
  clear q'a q'b q'c q'd q'e q'f q'z
  obtain ⟨ra, rb, rc, rd, re, rf, rz⟩ := cells3 x.below r'z r'a r'b r'c r'd r'e r'f
  clear r'a r'b r'c r'd r'e r'f r'z
  obtain ⟨sa, sb, sc, sd, se, sf, sz⟩ := cells3 x.below s'z s'a s'b s'c s'd s'e s'f
  clear s'a s'b s'c s'd s'e s'f s'z
  generalize x.at = w6 at *
  clear x hB hz W
  go_wp2_with fail
  obtain ⟨W, rfl⟩ : ∃ W, W = w6 := ⟨_, rfl⟩
  have hB := hx
  have hz := hx.size
  clear hx
  have Lpa := fun x : Later W.heap.size W => (x.cell pz).trans pa
  have Lpb := fun x : Later W.heap.size W => (x.cell pz).trans pb
  have Lpc := fun x : Later W.heap.size W => (x.cell pz).trans pc
  have Lqa := fun x : Later W.heap.size W => (x.cell qz).trans qa
  have Lqb := fun x : Later W.heap.size W => (x.cell qz).trans qb
  have Lqc := fun x : Later W.heap.size W => (x.cell qz).trans qc
  have Lra := fun x : Later W.heap.size W => (x.cell rz).trans ra
  have Lrb := fun x : Later W.heap.size W => (x.cell rz).trans rb
  have Lrc := fun x : Later W.heap.size W => (x.cell rz).trans rc
  have Lsa := fun x : Later W.heap.size W => (x.cell sz).trans sa
  have Lsb := fun x : Later W.heap.size W => (x.cell sz).trans sb
  have Lsc := fun x : Later W.heap.size W => (x.cell sz).trans sc
  refine region_later W.heap.size (by kernel_rfl) (by kernel_rfl) ?_
  repeat (go_big_quiet_step (first | (go_at_call 15; exact later_of (Nat.le_refl _) (bit_any _ _ _)) | (go_at_call 17; exact later_of (Nat.le_refl _) (set_any _ _ _ _)) | (go_at_call 13; exact later_of (Nat.le_refl _) (sane_any _ _))))
  refine wpQuiet_nil ?_
  intro x
  have hx : Below w.heap.size w x.at := hB.trans (x.below.mono hz)
  go_wp2
  go_ret
  exact ⟨rfl, hx⟩

end Go.Proofs.Yteeeiobkjakmpaa
