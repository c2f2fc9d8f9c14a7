/-
  AddrIs returns true, whatever address and numbers. No condition.
-/
import Derived.Test.YteeeiobkjakmpaaRefG
import Derived.Test.YteeeiobkjakmpaaRefH
namespace Go.Proofs.Yteeeiobkjakmpaa
open Go.RowKit

theorem held_of (a : Ad) (w : World) :
    Calls Try.prog 23 #[.agg #[.int .u64 (u a.hi), .int .u64 (u a.lo), .bool a.v6]] w fun e w' => ∃ v, e = .returned v ∧ Held (nb a.v6) (byteAt a) v w' ∧ Below w.heap.size w w' := by
  refine (bytes_any a w).mono ?_
  rintro e w' ⟨g, rfl, hg, hrow, hb⟩
  refine ⟨_, rfl, ⟨g, nb a.v6, rfl, hrow.lt, fun k hk => ?_⟩, hb⟩
  rw [Nat.zero_add, hrow.cell hk]

def prI (a : Ad) (i j : Nat) (d e t : Tmp) (f : FuncId) : Pair where
  i := i
  j := j
  d := d
  e := e
  arg := .tmp t
  y := .agg #[.int .u64 (u a.hi), .int .u64 (u a.lo), .bool a.v6]
  s := .string (strOf (nb a.v6) (byteAt a))
  f := f
  Φ := Held (nb a.v6) (byteAt a)
theorem two_mem {p x y : Pair} (h : p ∈ [x, y]) : p = x ∨ p = y := by simpa using h

set_option maxHeartbeats 4000000 in
set_option maxRecDepth 100000 in
theorem is_law (a : Ad) (i v : Int) (w : World) :
    Calls Try.prog 3 #[.agg #[.int .u64 (u a.hi), .int .u64 (u a.lo), .bool a.v6], .int .i64 i, .int .i64 v] w fun e w' => e = .returned (.bool true) ∧ Below w.heap.size w w' := by
  go_enter Try.func3, Try.ntmps3
  go_wp2_with fail
  refine (awake_any _).mono ?_
  rintro e w1 ⟨rfl, hw1⟩
  have zw1 := hw1.size
  have bw1 := below_of (w := w) (by go_grown) hw1
  try simp at zw1
  obtain ⟨pa, pb, pc, pd, pe, pf, pz⟩ := cells3 (b := w.heap.size) hw1 (by go_size) (by go_simp <;> rfl) (by go_simp <;> rfl) (by go_simp <;> rfl) (by go_simp <;> rfl) (by go_simp <;> rfl) (by go_simp <;> rfl)
  clear hw1
  go_wp2_with fail
  refine (next_any a _).mono ?_
  rintro e w2 ⟨rfl, hw2⟩
  have bw2 := below_of (w := w) (by go_grown) hw2
  obtain ⟨p'a, p'b, p'c, p'd, p'e, p'f, p'z⟩ := cells3 (b := w.heap.size) hw2 (by go_size) (by go_simp <;> rfl) (by go_simp <;> rfl) (by go_simp <;> rfl) (by go_simp <;> rfl) (by go_simp <;> rfl) (by go_simp <;> rfl)
  clear hw2 pa pb pc pd pe pf pz
  go_wp2_with fail
  refine (refNext_any a _).mono ?_
  rintro e w3 ⟨rfl, hw3⟩
  have bw3 := below_of (w := w) (by go_grown) hw3
  obtain ⟨pa, pb, pc, pd, pe, pf, pz⟩ := cells3 (b := w.heap.size) hw3 (by go_size) (by go_simp <;> rfl) (by go_simp <;> rfl) (by go_simp <;> rfl) (by go_simp <;> rfl) (by go_simp <;> rfl) (by go_simp <;> rfl)
  obtain ⟨qa, qb, qc, qd, qe, qf, qz⟩ := cells3 (b := w2.heap.size) hw3 (by go_size) (by go_simp <;> rfl) (by go_simp <;> rfl) (by go_simp <;> rfl) (by go_simp <;> rfl) (by go_simp <;> rfl) (by go_simp <;> rfl)
  clear hw3 p'a p'b p'c p'd p'e p'f p'z
  go_wp2_with fail
  generalize hW : World.alloc _ _ = W
  have hz : w.heap.size ≤ W.heap.size := by subst hW; go_size
  have hB : Below w.heap.size w W := by subst hW; go_grown
  obtain ⟨p'a, p'b, p'c, p'd, p'e, p'f, p'z⟩ := cells3 (W := W) (b := w.heap.size) (Below.refl _ W) (by subst hW; go_size) (by subst hW; go_simp <;> rfl) (by subst hW; go_simp <;> rfl) (by subst hW; go_simp <;> rfl) (by subst hW; go_simp <;> rfl) (by subst hW; go_simp <;> rfl) (by subst hW; go_simp <;> rfl)
  obtain ⟨q'a, q'b, q'c, q'd, q'e, q'f, q'z⟩ := cells3 (W := W) (b := w2.heap.size) (Below.refl _ W) (by subst hW; go_size) (by subst hW; go_simp <;> rfl) (by subst hW; go_simp <;> rfl) (by subst hW; go_simp <;> rfl) (by subst hW; go_simp <;> rfl) (by subst hW; go_simp <;> rfl) (by subst hW; go_simp <;> rfl)
  obtain ⟨r'a, r'b, r'c, r'd, r'e, r'f, r'z⟩ := cells3 (W := W) (b := w3.heap.size) (Below.refl _ W) (by subst hW; go_size) (by subst hW; go_simp <;> rfl) (by subst hW; go_simp <;> rfl) (by subst hW; go_simp <;> rfl) (by subst hW; go_simp <;> rfl) (by subst hW; go_simp <;> rfl) (by subst hW; go_simp <;> rfl)
  clear hW pa pb pc pd pe pf pz qa qb qc qd qe qf qz
  have g1 : adB (u (setv a i v).hi) (u (setv a i v).lo) (setv a i v).v6 (u (setv a i v).hi) (u (setv a i v).lo) (setv a i v).v6 = true := (adEq_iff _ _).2 rfl
  have g2 : adB (u (maskv a i).hi) (u (maskv a i).lo) (maskv a i).v6 (u (maskv a i).hi) (u (maskv a i).lo) (maskv a i).v6 = true := (adEq_iff _ _).2 rfl
  have g3 : adB (u (fillv a i).hi) (u (fillv a i).lo) (fillv a i).v6 (u (fillv a i).hi) (u (fillv a i).lo) (fillv a i).v6 = true := (adEq_iff _ _).2 rfl
  have g4 : adB (u (nextv a).1.hi) (u (nextv a).1.lo) (nextv a).1.v6 (u (nextv a).1.hi) (u (nextv a).1.lo) (nextv a).1.v6 = true := (adEq_iff _ _).2 rfl
  simp only [List.append_eq, List.cons_append, List.nil_append]
  refine region_mix [prI a 48 49 71 72 70 23, prI a 51 52 74 75 73 24] W.heap.size (by kernel_rfl) (by kernel_rfl) (by kernel_rfl) (by kernel_rfl) (Nat.le_refl _) ⟨?_, ?_, ?_, ?_, ?_, ?_, ?_, ?_, ?_, ?_⟩ ?_
  · intro p hp o ho
    rcases two_mem hp with rfl | rfl
    · simp only [virt, if_pos ho]
    · have h1 : ¬ o.dst = some (prI a 48 49 71 72 70 23).d := by rw [ho]; simp [prI]
      have h2 : ¬ o.dst = some (prI a 48 49 71 72 70 23).e := by rw [ho]; simp [prI]
      simp only [virt, if_neg h1, if_neg h2, if_pos ho]
  · intro p hp o ho
    rcases two_mem hp with rfl | rfl
    · have h1 : ¬ o.dst = some (prI a 48 49 71 72 70 23).d := by rw [ho]; simp [prI]
      simp only [virt, if_neg h1, if_pos ho]
    · have h1 : ¬ o.dst = some (prI a 48 49 71 72 70 23).d := by rw [ho]; simp [prI]
      have h2 : ¬ o.dst = some (prI a 48 49 71 72 70 23).e := by rw [ho]; simp [prI]
      have h3 : ¬ o.dst = some (prI a 51 52 74 75 73 24).d := by rw [ho]; simp [prI]
      simp only [virt, if_neg h1, if_neg h2, if_neg h3, if_pos ho]
  · intro p hp q hq h
    rcases two_mem hp with rfl | rfl <;> rcases two_mem hq with rfl | rfl <;> first | rfl | (simp [prI] at h)
  · intro p hp q hq
    rcases two_mem hp with rfl | rfl <;> rcases two_mem hq with rfl | rfl <;> simp [prI]
  · intro p hp q hq
    rcases two_mem hp with rfl | rfl <;> rcases two_mem hq with rfl | rfl <;> simp [prI]
  · intro p hp
    rcases two_mem hp with rfl | rfl <;> simp [prI, undef]
  · intro p hp o ho a w
    rcases two_mem hp with rfl | rfl
    · simp [prI] at ho
      subst ho
      simp [prI, go_sem]
    · simp [prI] at ho
      subst ho
      simp [prI, go_sem]
  · intro p hp x
    rcases two_mem hp with rfl | rfl
    · exact held_of a x.at
    · exact refBytes_any a x.at
  · intro p hp o ho b w hΦ
    rcases two_mem hp with rfl | rfl
    · simp [prI] at ho
      subst ho
      have hcv := hΦ.conv
      generalize hval : b.eval (.tmp (prI a 48 49 71 72 70 23).d) = val at hcv
      have hval' : b.eval (.tmp 71) = val := hval
      clear hval hΦ
      unfold execOp
      simp only [hval']
      simp [go_sem, hcv, prI]
    · simp [prI] at ho
      subst ho
      have hcv := hΦ.conv
      generalize hval : b.eval (.tmp (prI a 51 52 74 75 73 24).d) = val at hcv
      have hval' : b.eval (.tmp 74) = val := hval
      clear hval hΦ
      unfold execOp
      simp only [hval']
      simp [go_sem, hcv, prI]
  · intro p hp v w w' h1 h2
    rcases two_mem hp with rfl | rfl
    · exact Held.keep h1 h2
    · exact Held.keep h1 h2
  apply Exists.intro
  refine ⟨fun W' hW' => ?_, ?_, ?_⟩
  · have T := Lib.hid (fun x : Later W'.heap.size W' => hW'.trans (x.below.mono hW'.size))
    have La := fun x : Later W'.heap.size W' => ((T.out x).cell (p := ⟨w.heap.size, 0, none⟩) p'z).trans p'a
    have Lb := fun x : Later W'.heap.size W' => ((T.out x).cell (p := ⟨w.heap.size, 1, none⟩) p'z).trans p'b
    have Lc := fun x : Later W'.heap.size W' => ((T.out x).cell (p := ⟨w.heap.size, 2, none⟩) p'z).trans p'c
    have Ma := fun x : Later W'.heap.size W' => ((T.out x).cell (p := ⟨w2.heap.size, 0, none⟩) q'z).trans q'a
    have Mb := fun x : Later W'.heap.size W' => ((T.out x).cell (p := ⟨w2.heap.size, 1, none⟩) q'z).trans q'b
    have Mc := fun x : Later W'.heap.size W' => ((T.out x).cell (p := ⟨w2.heap.size, 2, none⟩) q'z).trans q'c
    have Na := fun x : Later W'.heap.size W' => ((T.out x).cell (p := ⟨w3.heap.size, 0, none⟩) r'z).trans r'a
    have Nb := fun x : Later W'.heap.size W' => ((T.out x).cell (p := ⟨w3.heap.size, 1, none⟩) r'z).trans r'b
    have Nc := fun x : Later W'.heap.size W' => ((T.out x).cell (p := ⟨w3.heap.size, 2, none⟩) r'z).trans r'c
    simp only [List.map_cons, List.map_nil, virt, prI, Option.some.injEq, Nat.reduceEqDiff, reduceIte]
    repeat (go_big_quiet_step (first | (go_at_call 13; exact later_of (Nat.le_refl _) (sane_any _ _)) | (go_at_call 14; exact later_of (Nat.le_refl _) (refSane_any _ _)) | (go_at_call 15; exact later_of (Nat.le_refl _) (bit_any _ _ _)) | (go_at_call 16; exact later_of (Nat.le_refl _) (refBit_any _ _ _)) | (go_at_call 17; exact later_of (Nat.le_refl _) (set_any _ _ _ _)) | (go_at_call 18; exact later_of (Nat.le_refl _) (refSet_any _ _ _ _)) | (go_at_call 19; exact later_of (Nat.le_refl _) (mask_any _ _ _)) | (go_at_call 20; exact later_of (Nat.le_refl _) (refMask_any _ _ _)) | (go_at_call 21; exact later_of (Nat.le_refl _) (fill_any _ _ _)) | (go_at_call 22; exact later_of (Nat.le_refl _) (refFill_any _ _ _)) | (go_at_call 25; exact later_same (width_any _ _)) | (go_at_call 26; exact later_same (refWidth_any _ _))))
    refine wpQuiet_nil ?_
    exact rfl
  · intro p hp
    rcases two_mem hp with rfl | rfl
    · exact ⟨rfl, rfl⟩
    · exact ⟨rfl, rfl⟩
  · intro listed r w' R
    obtain ⟨v1, v2, rfl⟩ := R.two
    have hx : Below w.heap.size w w' := hB.trans (R.below.mono hz)
    clear R
    simp only [prI, Act.put, List.setIfInBounds_toArray, List.set_cons_succ, List.set_cons_zero]
    go_wp2
    go_ret
    exact ⟨rfl, hx⟩

end Go.Proofs.Yteeeiobkjakmpaa
