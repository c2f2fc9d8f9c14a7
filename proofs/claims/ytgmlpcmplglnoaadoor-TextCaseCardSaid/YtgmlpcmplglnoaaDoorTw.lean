/-
  What awake of the laws of layer 3 returns: true. Condition: the library's tables hold what its text lays.
-/
import Derived.Test.YtgmlpcmplglnoaaDoorTr
namespace Go.Proofs.YtgmlpcmplglnoaaDoor
open Go.RowKit
set_option maxRecDepth 100000

def exP3 : Pf := ⟨⟨2306139568115548160#64, 0#64, true⟩, 32⟩
def ex3A : List UInt8 := [50, 48, 48, 49, 58, 68, 66, 56, 58, 48, 58, 48, 58, 49, 58, 48, 58, 48, 58, 49, 47, 54, 52]
def ex3B : List UInt8 := [50, 48, 48, 49, 58, 100, 98, 56, 58, 58, 47, 51, 50]
theorem ex3_one : parseP ex3A = (pf0, 1) := by decide +kernel
theorem ex3_two : parseP ex3B = (exP3, 0) := by decide +kernel
theorem itoa32 : Lib.itoa 32 = [51, 50] := by
  unfold Lib.itoa
  rw [if_neg (by decide)]
  show Lib.decDigits 32 = _
  rw [Lib.decDigits, dif_neg (by decide), Lib.decDigits, dif_pos (by decide)]
  rfl
theorem ex3_print : printP exP3 = ex3B := by
  unfold printP
  rw [show exP3.n = 32 from rfl, itoa32]
  decide +kernel

set_option maxHeartbeats 2000000 in
theorem awake3_any (w : World) (he : Env w) :
    Calls Tryd.prog 9 #[] w fun e w' => e = .returned (.bool true) ∧ Below w.heap.size w w' := by
  have c1 : ∀ w, Env w → Calls Tryd.prog 12 #[.string ⟨#[50, 48, 48, 49, 58, 68, 66, 56, 58, 48, 58, 48, 58, 49, 58, 48, 58, 48, 58, 49, 47, 54, 52]⟩] w fun e w' => e = .returned (.tuple #[.agg #[.int .u64 (u pf0.a.hi), .int .u64 (u pf0.a.lo), .bool pf0.a.v6, .int .i64 pf0.n], .int .i64 1]) ∧ Below w.heap.size w w' := fun w he => by
    have h := parse_any ⟨#[50, 48, 48, 49, 58, 68, 66, 56, 58, 48, 58, 48, 58, 49, 58, 48, 58, 48, 58, 49, 47, 54, 52]⟩ w he (by decide)
    rw [show (⟨#[50, 48, 48, 49, 58, 68, 66, 56, 58, 48, 58, 48, 58, 49, 58, 48, 58, 48, 58, 49, 47, 54, 52]⟩ : ByteArray).data.toList = ex3A from rfl, ex3_one] at h
    exact h
  have c2 : ∀ w, Env w → Calls Tryd.prog 12 #[.string ⟨#[50, 48, 48, 49, 58, 100, 98, 56, 58, 58, 47, 51, 50]⟩] w fun e w' => e = .returned (.tuple #[.agg #[.int .u64 (u exP3.a.hi), .int .u64 (u exP3.a.lo), .bool exP3.a.v6, .int .i64 exP3.n], .int .i64 0]) ∧ Below w.heap.size w w' := fun w he => by
    have h := parse_any ⟨#[50, 48, 48, 49, 58, 100, 98, 56, 58, 58, 47, 51, 50]⟩ w he (by decide)
    rw [show (⟨#[50, 48, 48, 49, 58, 100, 98, 56, 58, 58, 47, 51, 50]⟩ : ByteArray).data.toList = ex3B from rfl, ex3_two] at h
    exact h
  have c3 : ∀ w, Env w → Calls Tryd.prog 16 #[.agg #[.int .u64 (u exP3.a.hi), .int .u64 (u exP3.a.lo), .bool exP3.a.v6, .int .i64 exP3.n]] w fun e w' => e = .returned (.string ⟨#[50, 48, 48, 49, 58, 100, 98, 56, 58, 58, 47, 51, 50]⟩) ∧ Below w.heap.size w w' := fun w he => by
    have h := print_any exP3 (by decide) (by decide) w he
    rw [ex3_print] at h
    exact h
  have C1 := fun w he => Lib.hid (c1 w he)
  have C2 := fun w he => Lib.hid (c2 w he)
  have C3 := fun w he => Lib.hid (c3 w he)
  clear c1 c2 c3
  have hn : exP3.n = 32 := rfl
  go_enter Tryd.func9, Tryd.ntmps9
  go_wp2_with fail
  refine (C1 _ he).out.mono ?_
  rintro e w1 ⟨rfl, hw1⟩
  have e1 := he.go hw1
  have z1 := hw1.size
  go_wp2_with fail
  generalize hW2 : World.alloc _ _ = W2
  have z2 : w1.heap.size < W2.heap.size := by subst hW2; go_size
  have b2 : Below w.heap.size w W2 := by subst hW2; go_grown
  clear hW2
  refine (C2 _ (he.go b2)).out.mono ?_
  rintro e w3 ⟨rfl, hw3⟩
  have z3 := hw3.size
  have b3 := b2.trans (hw3.mono (by omega))
  go_wp2_with fail
  generalize hW4 : World.alloc _ _ = W4
  have z4 : w3.heap.size < W4.heap.size := by subst hW4; go_size
  have b4 : Below w.heap.size w W4 := by subst hW4; go_grown
  obtain ⟨pa, pb, pc, pg, pd, pe, pf, ph, pz⟩ : PBox W4 w3.heap.size exP3 := by
    subst hW4
    refine ⟨?_, ?_, ?_, ?_, ?_, ?_, ?_, ?_, ?_⟩ <;> first | (go_simp; done) | (go_simp <;> rfl) | go_size
  clear hW4
  refine (C3 _ (he.go b4)).out.mono ?_
  rintro e w5 ⟨rfl, hw5⟩
  have z5 := hw5.size
  have b5 := b4.trans (hw5.mono (by omega))
  obtain ⟨qa, qb, qc, qg, qd, qe, qf, qh, qz⟩ := cells4 hw5 pz pa pb pc pg pd pe pf ph
  clear pa pb pc pg pd pe pf ph pz
  go_wp2
  go_ret
  exact ⟨rfl, b5⟩

theorem parsePrint_any (a : Ad) (w : World) (he : Env w) :
    Calls Tryd.prog 10 #[.string ⟨(printA a).toArray⟩] w fun e w' => e = .returned (.tuple #[.agg #[.int .u64 (u (norm a).hi), .int .u64 (u (norm a).lo), .bool (norm a).v6], .int .i64 0]) ∧ Below w.heap.size w w' := by
  have h := parseAddr_any ⟨(printA a).toArray⟩ w he (by rw [ba_size]; have := printA_le a; omega)
  rw [bl, parse_print] at h
  exact h
theorem printP_le (p : Pf) (h0 : -9223372036854775808 ≤ p.n) (h1 : p.n ≤ 9223372036854775807) : (printP p).length ≤ 101 := by
  unfold printP
  have := printA_le p.a
  have := itoa_le p.n h0 h1
  simp only [List.length_append, List.length_cons, List.length_nil]
  omega
theorem parsePrintP_any (p q : Pf) (f : Int) (hq : parseP (printP p) = (q, f)) (h0 : -9223372036854775808 ≤ p.n) (h1 : p.n ≤ 9223372036854775807) (w : World) (he : Env w) :
    Calls Tryd.prog 12 #[.string ⟨(printP p).toArray⟩] w fun e w' => e = .returned (.tuple #[.agg #[.int .u64 (u q.a.hi), .int .u64 (u q.a.lo), .bool q.a.v6, .int .i64 q.n], .int .i64 f]) ∧ Below w.heap.size w w' := by
  have h := parse_any ⟨(printP p).toArray⟩ w he (by rw [ba_size]; have := printP_le p h0 h1; omega)
  rw [bl, hq] at h
  exact h
theorem saneB_iff (a : Ad) : saneB a = true ↔ norm a = a := by
  rw [← adEq_iff]
  unfold saneB adEq adB
  have e : (norm a).v6 = a.v6 := rfl
  simp [e]
theorem saneB_ad (a : Ad) : adB (u (norm a).hi) (u (norm a).lo) (norm a).v6 (u a.hi) (u a.lo) a.v6 = saneB a := by
  have h : adB (u (norm a).hi) (u (norm a).lo) (norm a).v6 (u a.hi) (u a.lo) a.v6 = adEq (norm a) a := rfl
  rw [h, Bool.eq_iff_iff, adEq_iff, saneB_iff]
theorem back_sane (p : Pf) (hp : psane p = true) : parseP (printP p) = (p, 0) := by
  obtain ⟨h1, h2, h3, _⟩ := (psane_iff p).1 hp
  have hw := wid_bd p.a.v6
  rw [parse_printP, if_pos (by omega), h1, if_pos hp]
theorem back_insane (p : Pf) (hp : psane p = false) (ha : saneB p.a = true) : parseP (printP p) = (pf0, 1) ∨ parseP (printP p) = (pf0, 5) := by
  have h1 := (saneB_iff p.a).1 ha
  rw [parse_printP]
  split
  · rw [h1, if_neg (by rw [hp]; simp)]
    exact .inl rfl
  · exact .inr rfl

end Go.Proofs.YtgmlpcmplglnoaaDoor
