/-
  AddrBack returns true, whatever address, bytes and numbers. No condition.
-/
import Derived.Test.YteeeiobkjakmpaaLawB
import Derived.Test.YteeeiobkjakmpaaMix
namespace Go.Proofs.Yteeeiobkjakmpaa
open Go.RowKit

/-- A slice of a fresh row of bytes. -/
def Held (n : Nat) (bs : Nat → Int) (v : Value) (w : World) : Prop :=
  ∃ g c : Nat, v = .slice (some ⟨g, 0, none⟩) n c ∧ g < w.heap.size ∧ ∀ k, k < n → w.cell? ⟨g, 0 + k, none⟩ = some (.int .u8 (bs k))
theorem Held.keep {n : Nat} {bs : Nat → Int} {v : Value} {w w' : World} (h : Held n bs v w) (hb : Below w.heap.size w w') : Held n bs v w' := by
  obtain ⟨g, c, rfl, hg, hc⟩ := h
  exact ⟨g, c, rfl, Nat.lt_of_lt_of_le hg hb.size, fun k hk => (hb.cell (p := ⟨g, 0 + k, none⟩) hg).trans (hc k hk)⟩
/-- The string of bytes. -/
def strOf (n : Nat) (bs : Nat → Int) : ByteArray := strOfNums ((List.range n).map bs)
theorem strOf_at (n : Nat) (bs : Nat → Int) (i : Nat) (h : i < n) : ((List.range n).map bs).getD i 0 = bs i := by
  rw [List.getD_eq_getElem?_getD]
  simp [h]
theorem conv_bytes (w : World) (b off n c : Nat) (bs : Nat → Int) (h : ∀ i, i < n → w.cell? ⟨b, off + i, none⟩ = some (.int .u8 (bs i))) :
    (convert 32 9 (.slice (some ⟨b, off, none⟩) n c)).run Try.prog w = .ok (.string (strOf n bs)) w :=
  run_convert_bytes_arg w 32 5 Try.underlying32 Try.underlying5 b off n c _ (by simp) (fun i hi => by rw [strOf_at n bs i hi]; exact h i hi) 9 Try.underlying9
theorem Held.conv {n : Nat} {bs : Nat → Int} {v : Value} {w : World} (h : Held n bs v w) : (convert 32 9 v).run Try.prog w = .ok (.string (strOf n bs)) w := by
  obtain ⟨g, c, rfl, _, hc⟩ := h
  exact conv_bytes w g 0 n c bs hc
theorem held_bytes (vb : Bool) (bs : Nat → Int) (hbs : ∀ j, j < nb vb → 0 ≤ bs j ∧ bs j < 256) (w : World) :
    Calls Try.prog 23 #[.agg #[.int .u64 (u (fromv bs vb).hi), .int .u64 (u (fromv bs vb).lo), .bool (fromv bs vb).v6]] w fun e w' => ∃ v, e = .returned v ∧ Held (nb vb) bs v w' ∧ Below w.heap.size w w' := by
  refine (bytes_any (fromv bs vb) w).mono ?_
  rintro e w' ⟨g, rfl, hg, hrow, hb⟩
  refine ⟨_, rfl, ⟨g, nb vb, rfl, hrow.lt, fun k hk => ?_⟩, hb⟩
  rw [Nat.zero_add, hrow.cell hk, bytes_from bs vb hbs k hk]
def pr (vb : Bool) (bs : Nat → Int) : Pair where
  i := 4
  j := 5
  d := 42
  e := 43
  arg := .tmp 41
  y := .agg #[.int .u64 (u (fromv bs vb).hi), .int .u64 (u (fromv bs vb).lo), .bool (fromv bs vb).v6]
  s := .string (strOf (nb vb) bs)
  f := 23
  Φ := Held (nb vb) bs

set_option maxHeartbeats 2000000 in
set_option maxRecDepth 100000 in
theorem back_good (a : Ad) (vb : Bool) (gb off cap : Nat) (bs : Nat → Int) (i v : Int) (w : World) (hbs : ∀ j, j < nb vb → 0 ≤ bs j ∧ bs j < 256) (hgb : gb < w.heap.size) (hcell : ∀ j, j < nb vb → w.cell? ⟨gb, off + j, none⟩ = some (.int .u8 (bs j))) :
    Calls Try.prog 5 #[.agg #[.int .u64 (u a.hi), .int .u64 (u a.lo), .bool a.v6], .slice (some ⟨gb, off, none⟩) (nb vb) cap, .int .i64 i, .int .i64 v] w fun e w' => e = .returned (.bool true) ∧ Below w.heap.size w w' := by
  obtain ⟨n0, n1⟩ := and_bd i
  have hwb := wid_bd a.v6
  have m0 : 0 ≤ bits .and .i64 i 65535 % wid a.v6 := Int.emod_nonneg _ (by omega)
  have m1 : bits .and .i64 i 65535 % wid a.v6 < wid a.v6 := Int.emod_lt_of_pos _ (by omega)
  obtain ⟨k, hk⟩ := Int.eq_ofNat_of_zero_le m0
  have hkw : k < wd a.v6 := by rw [hk, wid_wd] at m1; omega
  obtain ⟨s1, s2⟩ := set_told a k v hkw
  rw [← hk] at s1 s2
  have t1 : (bitv (setv a (bits .and .i64 i 65535 % wid a.v6) v) (bits .and .i64 i 65535 % wid a.v6) == bits .and .i64 v 1) = true := by simp [s1]
  have g2 : adB (u (setv (setv a (bits .and .i64 i 65535 % wid a.v6) v) (bits .and .i64 i 65535 % wid a.v6) (bitv a (bits .and .i64 i 65535 % wid a.v6))).hi) (u (setv (setv a (bits .and .i64 i 65535 % wid a.v6) v) (bits .and .i64 i 65535 % wid a.v6) (bitv a (bits .and .i64 i 65535 % wid a.v6))).lo) (setv (setv a (bits .and .i64 i 65535 % wid a.v6) v) (bits .and .i64 i 65535 % wid a.v6) (bitv a (bits .and .i64 i 65535 % wid a.v6))).v6 (u (norm a).hi) (u (norm a).lo) (norm a).v6 = true := (adEq_iff _ _).2 s2
  have g1 : adB (u (norm a).hi) (u (norm a).lo) (norm a).v6 (u a.hi) (u a.lo) a.v6 = saneB a := norm_eq_sane a
  have hx := fun (g : Nat) (W : World) hg hc => from_any a.v6 g 0 (nb a.v6) (byteAt a) (fun j _ => byteAt_bd a j) W hg hc
  rw [from_bytes] at hx
  have HX := Lib.hid hx
  clear hx s1 s2 hk hkw
  have hb : ∀ W, Below w.heap.size w W → Calls Try.prog 27 #[.slice (some ⟨gb, off, none⟩) (nb vb) cap] W fun e w' => e = .returned (.tuple #[.agg #[.int .u64 (u (fromv bs vb).hi), .int .u64 (u (fromv bs vb).lo), .bool (fromv bs vb).v6], .int .i64 0]) ∧ Below W.heap.size W w' := fun W hW =>
    from_any vb gb off cap bs hbs W (Nat.lt_of_lt_of_le hgb hW.size) fun j hj => (hW.cell (p := ⟨gb, off + j, none⟩) hgb).trans (hcell j hj)
  have HB := Lib.hid hb
  clear hb
  have Hbs := Lib.hid hbs
  have Hcell := Lib.hid hcell
  clear hbs hcell
  go_enter Try.func5, Try.ntmps5
  go_wp2_with fail
  refine (awake_any _).mono ?_
  rintro e w1 ⟨rfl, hw1⟩
  have zw1 := hw1.size
  have bw1 := below_of (w := w) (by go_grown) hw1
  try simp at zw1
  obtain ⟨pa, pb, pc, pd, pe, pf, pz⟩ := cells3 (b := w.heap.size) hw1 (by go_size) (by go_simp <;> rfl) (by go_simp <;> rfl) (by go_simp <;> rfl) (by go_simp <;> rfl) (by go_simp <;> rfl) (by go_simp <;> rfl)
  clear hw1
  go_wp2_with fail
  refine (bytes_any a _).mono ?_
  rintro e w2 ⟨g, rfl, hg, hrow, hw2⟩
  have bw2 := below_of (w := w) (by go_grown) hw2
  obtain ⟨p'a, p'b, p'c, p'd, p'e, p'f, p'z⟩ := cells3 (b := w.heap.size) hw2 (by go_size) (by go_simp <;> rfl) (by go_simp <;> rfl) (by go_simp <;> rfl) (by go_simp <;> rfl) (by go_simp <;> rfl) (by go_simp <;> rfl)
  clear hw2 pa pb pc pd pe pf pz
  have hgt := hrow.lt
  have Hrow := Lib.hid hrow
  clear hrow
  go_wp2_with fail
  refine (HX.out g _ ?_ ?_).mono ?_
  · exact hgt
  · intro j hj
    rw [Nat.zero_add]
    exact Hrow.out.cell hj
  rintro e w3 ⟨rfl, hw3⟩
  have bw3 := below_of (w := w) (by go_grown) hw3
  obtain ⟨pa, pb, pc, pd, pe, pf, pz⟩ := cells3 (b := w.heap.size) hw3 (by go_size) (by go_simp <;> rfl) (by go_simp <;> rfl) (by go_simp <;> rfl) (by go_simp <;> rfl) (by go_simp <;> rfl) (by go_simp <;> rfl)
  clear hw3 p'a p'b p'c p'd p'e p'f p'z hgt Hrow hg
  go_wp2_with fail
  refine (HB.out _ (by go_grown)).mono ?_
  rintro e w4 ⟨rfl, hw4⟩
  have bw4 := below_of (w := w) (by go_grown) hw4
  obtain ⟨p'a, p'b, p'c, p'd, p'e, p'f, p'z⟩ := cells3 (b := w.heap.size) hw4 (by go_size) (by go_simp <;> rfl) (by go_simp <;> rfl) (by go_simp <;> rfl) (by go_simp <;> rfl) (by go_simp <;> rfl) (by go_simp <;> rfl)
  obtain ⟨q'a, q'b, q'c, q'd, q'e, q'f, q'z⟩ := cells3 (b := w3.heap.size) hw4 (by go_size) (by go_simp <;> rfl) (by go_simp <;> rfl) (by go_simp <;> rfl) (by go_simp <;> rfl) (by go_simp <;> rfl) (by go_simp <;> rfl)
  clear hw4 pa pb pc pd pe pf pz
  go_wp2_with fail
  refine (refWidth_any a.v6 _).mono ?_
  rintro e w5 ⟨rfl, rfl⟩
  go_wp2_with fail
  refine (set_any a _ v _).mono ?_
  rintro e w5 ⟨rfl, hw5⟩
  have bw5 := below_of (w := w) (by go_grown) hw5
  obtain ⟨pa, pb, pc, pd, pe, pf, pz⟩ := cells3 (b := w.heap.size) hw5 (by go_size) (by go_simp <;> rfl) (by go_simp <;> rfl) (by go_simp <;> rfl) (by go_simp <;> rfl) (by go_simp <;> rfl) (by go_simp <;> rfl)
  obtain ⟨qa, qb, qc, qd, qe, qf, qz⟩ := cells3 (b := w3.heap.size) hw5 (by go_size) (by go_simp <;> rfl) (by go_simp <;> rfl) (by go_simp <;> rfl) (by go_simp <;> rfl) (by go_simp <;> rfl) (by go_simp <;> rfl)
  obtain ⟨ra, rb, rc, rd, re, rf, rz⟩ := cells3 (b := w4.heap.size) hw5 (by go_size) (by go_simp <;> rfl) (by go_simp <;> rfl) (by go_simp <;> rfl) (by go_simp <;> rfl) (by go_simp <;> rfl) (by go_simp <;> rfl)
  clear hw5 p'a p'b p'c p'd p'e p'f p'z q'a q'b q'c q'd q'e q'f q'z
  go_wp2_with fail
  generalize hW : World.alloc _ _ = W
  have hz : w.heap.size ≤ W.heap.size := by subst hW; go_size
  have hB : Below w.heap.size w W := by subst hW; go_grown
  obtain ⟨p'a, p'b, p'c, p'd, p'e, p'f, p'z⟩ := cells3 (W := W) (b := w.heap.size) (Below.refl _ W) (by subst hW; go_size) (by subst hW; go_simp <;> rfl) (by subst hW; go_simp <;> rfl) (by subst hW; go_simp <;> rfl) (by subst hW; go_simp <;> rfl) (by subst hW; go_simp <;> rfl) (by subst hW; go_simp <;> rfl)
  obtain ⟨q'a, q'b, q'c, q'd, q'e, q'f, q'z⟩ := cells3 (W := W) (b := w3.heap.size) (Below.refl _ W) (by subst hW; go_size) (by subst hW; go_simp <;> rfl) (by subst hW; go_simp <;> rfl) (by subst hW; go_simp <;> rfl) (by subst hW; go_simp <;> rfl) (by subst hW; go_simp <;> rfl) (by subst hW; go_simp <;> rfl)
  obtain ⟨r'a, r'b, r'c, r'd, r'e, r'f, r'z⟩ := cells3 (W := W) (b := w4.heap.size) (Below.refl _ W) (by subst hW; go_size) (by subst hW; go_simp <;> rfl) (by subst hW; go_simp <;> rfl) (by subst hW; go_simp <;> rfl) (by subst hW; go_simp <;> rfl) (by subst hW; go_simp <;> rfl) (by subst hW; go_simp <;> rfl)
  obtain ⟨s'a, s'b, s'c, s'd, s'e, s'f, s'z⟩ := cells3 (W := W) (b := w5.heap.size) (Below.refl _ W) (by subst hW; go_size) (by subst hW; go_simp <;> rfl) (by subst hW; go_simp <;> rfl) (by subst hW; go_simp <;> rfl) (by subst hW; go_simp <;> rfl) (by subst hW; go_simp <;> rfl) (by subst hW; go_simp <;> rfl)
  clear hW pa pb pc pd pe pf pz qa qb qc qd qe qf qz ra rb rc rd re rf rz
  refine region_mix [pr vb bs] W.heap.size (by kernel_rfl) (by kernel_rfl) (by kernel_rfl) (by kernel_rfl) (Nat.le_refl _) ⟨?_, ?_, ?_, ?_, ?_, ?_, ?_, ?_, ?_, ?_⟩ ?_
  · intro p hp o ho
    obtain rfl := List.mem_singleton.1 hp
    simp only [virt, if_pos ho]
  · intro p hp o ho
    obtain rfl := List.mem_singleton.1 hp
    have hne : ¬ o.dst = some (pr vb bs).d := by rw [ho]; simp [pr]
    simp only [virt, if_neg hne, if_pos ho]
  · intro p hp q hq _
    rw [List.mem_singleton.1 hp, List.mem_singleton.1 hq]
  · intro p hp q hq
    rw [List.mem_singleton.1 hp, List.mem_singleton.1 hq]
    simp [pr]
  · intro p hp q hq
    rw [List.mem_singleton.1 hp, List.mem_singleton.1 hq]
    simp [pr]
  · intro p hp
    rw [List.mem_singleton.1 hp]
    simp [pr, undef]
  · intro p hp o ho a w
    rw [List.mem_singleton.1 hp] at ho ⊢
    simp [pr] at ho
    subst ho
    simp [pr, go_sem]
  · intro p hp x
    rw [List.mem_singleton.1 hp]
    exact held_bytes vb bs Hbs.out x.at
  · intro p hp o ho a w hΦ
    rw [List.mem_singleton.1 hp] at ho hΦ ⊢
    simp [pr] at ho
    subst ho
    have hcv := hΦ.conv
    generalize hval : a.eval (.tmp (pr vb bs).d) = val at hcv
    have hval' : a.eval (.tmp 42) = val := hval
    clear hval hΦ
    unfold execOp
    simp only [hval']
    simp [go_sem, hcv, pr]
  · intro p hp v w w' h1 h2
    rw [List.mem_singleton.1 hp] at h1 ⊢
    exact h1.keep h2
  apply Exists.intro
  refine ⟨fun W' hW' => ?_, ?_, ?_⟩
  · have T := Lib.hid (fun x : Later W'.heap.size W' => hW'.trans (x.below.mono hW'.size))
    have La := fun x : Later W'.heap.size W' => ((T.out x).cell (p := ⟨w4.heap.size, 0, none⟩) r'z).trans r'a
    have Lb := fun x : Later W'.heap.size W' => ((T.out x).cell (p := ⟨w4.heap.size, 1, none⟩) r'z).trans r'b
    have Lc := fun x : Later W'.heap.size W' => ((T.out x).cell (p := ⟨w4.heap.size, 2, none⟩) r'z).trans r'c
    have hcv := fun x : Later W'.heap.size W' => conv_bytes x.at gb off (nb vb) cap bs fun j hj => ((hB.trans ((T.out x).mono hz)).cell (p := ⟨gb, off + j, none⟩) hgb).trans (Hcell.out j hj)
    have e3 : (((nb vb : Nat) : Int) == 16) = vb := by cases vb <;> rfl
    have e4 : (fromv bs vb).v6 = vb := rfl
    simp only [List.map_cons, List.map_nil, virt, pr, Option.some.injEq, Nat.reduceEqDiff, reduceIte]
    repeat (go_big_quiet_step (fail))
    refine wpQuiet_nil ?_
    exact rfl
  · intro p hp
    rw [List.mem_singleton.1 hp]
    exact ⟨rfl, rfl⟩
  · intro listed r w' R
    obtain ⟨vv, rfl⟩ := R.one
    obtain ⟨x, rfl⟩ : ∃ x : Later W.heap.size W, x.at = w' := ⟨⟨w', R.below⟩, rfl⟩
    clear R
    have hx : Below w.heap.size w x.at := hB.trans (x.below.mono hz)
    obtain ⟨pa, pb, pc, pd, pe, pf, pz⟩ := cells3 x.below p'z p'a p'b p'c p'd p'e p'f
    clear p'a p'b p'c p'd p'e p'f p'z
    obtain ⟨qa, qb, qc, qd, qe, qf, qz⟩ := cells3 x.below q'z q'a q'b q'c q'd q'e q'f
    clear q'a q'b q'c q'd q'e q'f q'z
    obtain ⟨ra, rb, rc, rd, re, rf, rz⟩ := cells3 x.below r'z r'a r'b r'c r'd r'e r'f
    clear r'a r'b r'c r'd r'e r'f r'z
    obtain ⟨sa, sb, sc, sd, se, sf, sz⟩ := cells3 x.below s'z s'a s'b s'c s'd s'e s'f
    clear s'a s'b s'c s'd s'e s'f s'z
    generalize x.at = w6 at *
    clear x hB hz W
    simp only [pr, Act.put, List.setIfInBounds_toArray, List.set_cons_succ, List.set_cons_zero]
    go_wp2_with fail
    obtain ⟨W, rfl⟩ : ∃ W, W = w6 := ⟨_, rfl⟩
    have hB := hx
    have hz := hx.size
    clear hx
    have Lpa := fun x : Later W.heap.size W => (x.cell pz).trans pa
    have Lpb := fun x : Later W.heap.size W => (x.cell pz).trans pb
    have Lpc := fun x : Later W.heap.size W => (x.cell pz).trans pc
    have Lqa := fun x : Later W.heap.size W => (x.cell qz).trans qa
    have Lqb := fun x : Later W.heap.size W => (x.cell qz).trans qb
    have Lqc := fun x : Later W.heap.size W => (x.cell qz).trans qc
    have Lra := fun x : Later W.heap.size W => (x.cell rz).trans ra
    have Lrb := fun x : Later W.heap.size W => (x.cell rz).trans rb
    have Lrc := fun x : Later W.heap.size W => (x.cell rz).trans rc
    have Lsa := fun x : Later W.heap.size W => (x.cell sz).trans sa
    have Lsb := fun x : Later W.heap.size W => (x.cell sz).trans sb
    have Lsc := fun x : Later W.heap.size W => (x.cell sz).trans sc
    refine region_later W.heap.size (by kernel_rfl) (by kernel_rfl) ?_
    repeat (go_big_quiet_step (first | (go_at_call 15; exact later_of (Nat.le_refl _) (bit_any _ _ _)) | (go_at_call 17; exact later_of (Nat.le_refl _) (set_any _ _ _ _)) | (go_at_call 13; exact later_of (Nat.le_refl _) (sane_any _ _))))
    refine wpQuiet_nil ?_
    intro x
    have hx : Below w.heap.size w x.at := hB.trans (x.below.mono hz)
    go_wp2
    go_ret
    exact ⟨rfl, hx⟩

theorem back_law (a : Ad) (A : Option Addr) (len cap : Nat) (z : List Int) (i v : Int) (w : World) (hz : IsBytes w A len cap z) :
    Calls Try.prog 5 #[.agg #[.int .u64 (u a.hi), .int .u64 (u a.lo), .bool a.v6], .slice A len cap, .int .i64 i, .int .i64 v] w fun e w' => e = .returned (.bool true) ∧ Below w.heap.size w w' := by
  by_cases hv : ∃ v, len = nb v
  · obtain ⟨vb, rfl⟩ := hv
    have hp : 0 < nb vb := by cases vb <;> decide
    rcases hz with ⟨_, h, _, _⟩ | ⟨x, rfl, hl, hm, hlen, hcell, hb⟩
    · omega
    · obtain ⟨b, off, rfl, hc⟩ := ints_at hcell (by omega)
      have hbs : ∀ j, j < nb vb → 0 ≤ z.getD j 0 ∧ z.getD j 0 < 256 := by
        intro j hj
        have : z.getD j 0 = z[j]'(by omega) := by rw [List.getD_eq_getElem?_getD, List.getElem?_eq_getElem (by omega)]; rfl
        rw [this]
        exact hb _ (List.getElem_mem _)
      have hg : b < w.heap.size := World.block_lt_of_cell? w _ (hc 0 (by omega))
      exact back_good a vb b off cap (fun j => z.getD j 0) i v w hbs hg fun j hj => hc j (by omega)
  · exact back_bad a A len cap i v w (fun h => hv ⟨false, h⟩) (fun h => hv ⟨true, h⟩)

end Go.Proofs.Yteeeiobkjakmpaa
