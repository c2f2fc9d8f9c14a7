/-
  What text.PrintAddr and text.Print return. Condition: the library's tables hold what its text lays.
-/
import Derived.Test.YtgmlpcmplglnoaaDoorTh
import Derived.Test.YtgmlpcmplglnoaaDoorPg
import Derived.Test.YtgmlpcmplglnoaaDoorPbx
namespace Go.Proofs.YtgmlpcmplglnoaaDoor
open Go.RowKit
set_option maxRecDepth 100000

/-- An address as it is written. -/
def printA (a : Ad) : List UInt8 := if a.v6 = true then gapL (grpTs (byteAt a) 8) else Lib.join (numTs (byteAt a) 4) [46]
theorem hexL_le (u : Nat) : (hexL u).length ≤ 4 := by rw [hexL_len]; exact (hexn_bd u).2
theorem grpTs_le (bs : Nat → Int) (k : Nat) : ∀ x ∈ grpTs bs k, x.length ≤ 4 := by
  intro x hx
  unfold grpTs at hx
  obtain ⟨j, _, rfl⟩ := List.mem_map.1 hx
  exact hexL_le _
theorem dec_le (n : Nat) (h : n < 1000) : (Lib.decDigits n).length ≤ 3 := by
  rw [Lib.decDigits]
  split
  · simp
  · rw [Lib.decDigits]
    split
    · simp
    · rw [Lib.decDigits, dif_pos (by omega)]
      simp
theorem numTs_le (bs : Nat → Int) (hb : ∀ j, 0 ≤ bs j ∧ bs j < 256) (k : Nat) : ∀ x ∈ numTs bs k, x.length ≤ 3 := by
  intro x hx
  unfold numTs at hx
  obtain ⟨j, _, rfl⟩ := List.mem_map.1 hx
  have := hb j
  unfold Lib.itoa
  rw [if_neg (by omega)]
  exact dec_le _ (by omega)

set_option maxHeartbeats 2000000 in
theorem printAddr_any (a : Ad) (w : World) (he : Env w) :
    Calls Tryd.prog 14 #[.agg #[.int .u64 (u a.hi), .int .u64 (u a.lo), .bool a.v6]] w fun e w' => e = .returned (.string ⟨(printA a).toArray⟩) ∧ Below w.heap.size w w' := by
  go_enter Tryd.func14, Tryd.ntmps14
  go_wp2_with fail
  generalize hW1 : World.alloc _ _ = W1
  have z1 : w.heap.size < W1.heap.size := by subst hW1; go_size
  have b1 : Below w.heap.size w W1 := by subst hW1; go_grown
  have e1 := he.go b1
  obtain ⟨pa, pb, pc, pd, pe, pf, pz⟩ : Box W1 w.heap.size a := by
    subst hW1
    refine ⟨?_, ?_, ?_, ?_, ?_, ?_, ?_⟩ <;> first | (go_simp; done) | (go_simp <;> rfl) | go_size
  clear hW1
  refine (bytes_any a W1).mono ?_
  rintro e w2 ⟨g, rfl, hgb, hrow, hw2⟩
  have z2 := hw2.size
  have b2 := b1.trans (hw2.mono (Nat.le_of_lt z1))
  have e2 := e1.go hw2
  obtain ⟨qa, qb, qc, qd, qe, qf, qz⟩ := cells3 hw2 pz pa pb pc pd pe pf
  clear pa pb pc pd pe pf pz
  have hgl := hrow.lt
  have hcl := fun j (hj : j < nb a.v6) => hrow.cell hj
  have Hcl := Lib.hid hcl
  clear hcl hrow
  cases hv : a.v6 with
  | true =>
    rw [hv, show nb true = 16 from rfl] at Hcl
    have HP := Lib.hid (show printA a = gapL (grpTs (byteAt a) 8) from if_pos hv)
    have cg := groupTexts_any g 16 (byteAt a) (fun j _ => byteAt_bd a j) w2 e2 hgl Hcl.out
    rw [hv] at qc
    rw [show nb true = 16 from rfl]
    clear hv
    go_wp2_with fail
    refine cg.mono ?_
    rintro e w3 ⟨v3, rfl, hown3, hw3⟩
    have z3 := hw3.size
    have b3 := b2.trans (hw3.mono (by omega))
    obtain ⟨g3, cap3, hv3, hgb3, hgl3⟩ := hown3.form (by omega)
    have hcl3 := hown3.cells (g := g3) (by rw [hv3]; rfl)
    subst hv3
    have hcap : 8 ≤ cap3 := by
      rcases hown3.2 with ⟨h, _⟩ | ⟨g', cap', cur', h, _, _, h4, _⟩
      · cases h
      · injection h with h1 h2 h3
        omega
    have cw := withGap_any g3 cap3 hcap (grpTs (byteAt a) 8) (grpTs_len _ _) (grpTs_le _ _) w3 hgl3 (fun j x hx => by
      have e := hcl3 j (.string ⟨x.toArray⟩) (by unfold strv; rw [List.getElem?_map, hx]; rfl)
      rw [addr_add, Nat.zero_add] at e
      exact e)
    clear hcl3 hown3 cg
    go_wp2_with fail
    refine cw.mono ?_
    rintro e w4 ⟨rfl, hw4⟩
    have b4 := b3.trans (hw4.mono (by omega))
    go_wp2
    go_ret
    exact ⟨by rw [HP.out]; rfl, b4⟩
  | false =>
    rw [hv, show nb false = 4 from rfl] at Hcl
    have HP := Lib.hid (show printA a = Lib.join (numTs (byteAt a) 4) [46] from if_neg (by rw [hv]; simp))
    have cg := numberTexts_any g 4 4 (by omega) (byteAt a) (fun j _ => byteAt_bd a j) w2 e2 hgl Hcl.out
    rw [hv] at qc
    rw [show nb false = 4 from rfl]
    clear hv
    go_wp2_with fail
    refine cg.mono ?_
    rintro e w3 ⟨v3, rfl, hown3, hw3⟩
    have z3 := hw3.size
    have b3 := b2.trans (hw3.mono (by omega))
    obtain ⟨g3, cap3, hv3, hgb3, hgl3⟩ := hown3.form (by omega)
    have hcl3 := hown3.cells (g := g3) (by rw [hv3]; rfl)
    subst hv3
    have hcap : 4 ≤ cap3 := by
      rcases hown3.2 with ⟨h, _⟩ | ⟨g', cap', cur', h, _, _, h4, _⟩
      · cases h
      · injection h with h1 h2 h3
        omega
    have cw := join_any (some ⟨g3, 0, none⟩) cap3 (numTs (byteAt a) 4) 46 w3 (.inr ⟨g3, 0, rfl, hgl3, by rw [numTs_len]; exact hcap, fun j x hx => by
      have e := hcl3 j (.string ⟨x.toArray⟩) (by unfold strv; rw [List.getElem?_map, hx]; rfl)
      rw [addr_add] at e
      exact e⟩) (fun x hx => by have := numTs_le (byteAt a) (byteAt_bd a) 4 x hx; omega) (by rw [numTs_len]; omega)
    rw [numTs_len] at cw
    clear hcl3 hown3 cg
    go_wp2_with fail
    refine cw.mono ?_
    rintro e w4 ⟨rfl, hw4⟩
    have b4 := b3.trans (hw4.mono (by omega))
    go_wp2
    go_ret
    exact ⟨by rw [HP.out]; rfl, b4⟩

/-- A prefix as it is written. -/
def printP (p : Pf) : List UInt8 := printA p.a ++ [47] ++ Lib.itoa p.n
theorem printA_le (a : Ad) : (printA a).length ≤ 80 := by
  unfold printA
  split
  · unfold gapL
    have h1 := join_le 4 (grpTs (byteAt a) 8) 58 (grpTs_le _ _)
    have h2 := join_le 4 ((grpTs (byteAt a) 8).take (bestGo (zl (grpTs (byteAt a) 8)) 0 (0, 0)).1) 58 (fun y hy => grpTs_le _ _ y (List.mem_of_mem_take hy))
    have h3 := join_le 4 ((grpTs (byteAt a) 8).drop (bestGo (zl (grpTs (byteAt a) 8)) 0 (0, 0)).2) 58 (fun y hy => grpTs_le _ _ y (List.mem_of_mem_drop hy))
    have hb := bestGo_bd (zl (grpTs (byteAt a) 8)) 0 (0, 0) (Nat.le_refl _) (Nat.zero_le _)
    rw [List.length_take, grpTs_len] at h2
    rw [List.length_drop, grpTs_len] at h3
    rw [grpTs_len] at h1
    split
    · omega
    · simp only [List.length_append, List.length_cons, List.length_nil]
      omega
  · have h1 := join_le 3 (numTs (byteAt a) 4) 46 (numTs_le _ (byteAt_bd a) _)
    rw [numTs_len] at h1
    omega
theorem dec_big : ∀ (k n : Nat), n < 10 ^ k → (Lib.decDigits n).length ≤ max k 1
  | 0, n, h => by
    rw [Lib.decDigits, dif_pos (by simp at h; omega)]
    simp
  | k + 1, n, h => by
    rw [Lib.decDigits]
    split
    · simp
    · have h1 := dec_big k (n / 10) (by rw [Nat.pow_succ] at h; omega)
      have h2 : k ≠ 0 := by
        intro e
        subst e
        simp at h
        omega
      simp only [List.length_append, List.length_cons, List.length_nil]
      omega
theorem itoa_le (n : Int) (h0 : -9223372036854775808 ≤ n) (h1 : n ≤ 9223372036854775807) : (Lib.itoa n).length ≤ 20 := by
  unfold Lib.itoa
  split
  · have := dec_big 19 n.natAbs (by omega)
    simp only [List.length_cons]
    omega
  · have := dec_big 19 n.toNat (by omega)
    omega

set_option maxHeartbeats 2000000 in
theorem print_any (p : Pf) (h0 : -9223372036854775808 ≤ p.n) (h1 : p.n ≤ 9223372036854775807) (w : World) (he : Env w) :
    Calls Tryd.prog 16 #[.agg #[.int .u64 (u p.a.hi), .int .u64 (u p.a.lo), .bool p.a.v6, .int .i64 p.n]] w fun e w' => e = .returned (.string ⟨(printP p).toArray⟩) ∧ Below w.heap.size w w' := by
  have la := printA_le p.a
  have ln := itoa_le p.n h0 h1
  have HP := Lib.hid (show printP p = printA p.a ++ [47] ++ Lib.itoa p.n from rfl)
  have hc1 : ∀ w, Env w → Calls Tryd.prog 14 #[.agg #[.int .u64 (u p.a.hi), .int .u64 (u p.a.lo), .bool p.a.v6]] w fun e w' => e = .returned (.string ⟨(printA p.a).toArray⟩) ∧ Below w.heap.size w w' := fun w he => printAddr_any p.a w he
  have hc2 : ∀ w, Env w → Calls Tryd.prog 40 #[.int .i64 p.n] w fun e w' => e = .returned (.string ⟨(Lib.itoa p.n).toArray⟩) ∧ Below w.heap.size w w' := fun w he => itoa_any p.n h0 h1 w he
  generalize printA p.a = J1 at *
  generalize Lib.itoa p.n = J2 at *
  have s1 : ((⟨J1.toArray⟩ : ByteArray).size + (⟨#[47]⟩ : ByteArray).size) ≤ 9223372036854775807 := by simp [ByteArray.size]; omega
  have s2 : ((⟨J1.toArray⟩ ++ ⟨#[47]⟩ : ByteArray).size + (⟨J2.toArray⟩ : ByteArray).size) ≤ 9223372036854775807 := by
    have := ba_append J1 [47]
    rw [show (⟨[47].toArray⟩ : ByteArray) = ⟨#[47]⟩ from rfl] at this
    rw [this, ba_size, ba_size, List.length_append]
    simp
    omega
  have hS : (⟨J1.toArray⟩ ++ ⟨#[47]⟩ ++ ⟨J2.toArray⟩ : ByteArray) = ⟨(printP p).toArray⟩ := by
    rw [HP.out, show (⟨#[47]⟩ : ByteArray) = ⟨[47].toArray⟩ from rfl, ba_append, ba_append]
  have HS := Lib.hid hS
  clear hS HP
  go_enter Tryd.func16, Tryd.ntmps16
  go_wp2_with fail
  generalize hW1 : World.alloc _ _ = W1
  have z1 : w.heap.size < W1.heap.size := by subst hW1; go_size
  have b1 : Below w.heap.size w W1 := by subst hW1; go_grown
  obtain ⟨pa, pb, pc, pg, pd, pe, pf, ph, pz⟩ : PBox W1 w.heap.size p := by
    subst hW1
    refine ⟨?_, ?_, ?_, ?_, ?_, ?_, ?_, ?_, ?_⟩ <;> first | (go_simp; done) | (go_simp <;> rfl) | go_size
  clear hW1
  have La := fun x : Later W1.heap.size W1 => (x.cell (p := ⟨w.heap.size, 0, none⟩) pz).trans pa
  have Lb := fun x : Later W1.heap.size W1 => (x.cell (p := ⟨w.heap.size, 1, none⟩) pz).trans pb
  have Lc := fun x : Later W1.heap.size W1 => (x.cell (p := ⟨w.heap.size, 2, none⟩) pz).trans pc
  have Lg := fun x : Later W1.heap.size W1 => (x.cell (p := ⟨w.heap.size, 3, none⟩) pz).trans pg
  have HC1 := fun x : Later W1.heap.size W1 => Lib.hid (hc1 x.at ((he.go b1).go x.below))
  have HC2 := fun x : Later W1.heap.size W1 => Lib.hid (hc2 x.at ((he.go b1).go x.below))
  clear hc1 hc2
  refine region_later W1.heap.size (by kernel_rfl) (by kernel_rfl) ?_
  repeat (go_big_quiet_step (first
    | (go_at_call 14; exact later_of (Nat.le_refl _) (HC1 _).out)
    | (go_at_call 40; exact later_of (Nat.le_refl _) (HC2 _).out)))
  refine wpQuiet_nil ?_
  intro x
  have bx := b1.trans (x.below.mono (Nat.le_of_lt z1))
  clear HC1 HC2 La Lb Lc Lg
  generalize x.at = w2 at *
  clear x
  go_wp2
  go_ret
  exact ⟨congrArg (fun s => Ending.returned (Value.string s)) HS.out, bx⟩

end Go.Proofs.YtgmlpcmplglnoaaDoor
