/-
  same of layer 9's statements is true of places and the document's answer that hold the same. Condition: they lie where the arguments say.
-/
import Derived.Test.YtebgkoimphjagaaSp
namespace Go.Proofs.Ytebgkoimphjagaa
open Go.RowKit
set_option maxRecDepth 100000

theorem keepQ {b : Nat} {W w' : World} {c0 c1 c2 c3 : Value} (hz : b < W.heap.size) (hb : Below W.heap.size W w') (h0 : W.cell? ⟨b, 0, none⟩ = some c0) (h1 : W.cell? ⟨b, 1, none⟩ = some c1) (h2 : W.cell? ⟨b, 2, none⟩ = some c2) (h3 : W.cell? ⟨b, 3, none⟩ = some c3) :
    w'.cell? ⟨b, 0, none⟩ = some c0 ∧ w'.cell? ⟨b, 1, none⟩ = some c1 ∧ w'.cell? ⟨b, 2, none⟩ = some c2 ∧ w'.cell? ⟨b, 3, none⟩ = some c3 ∧ Below W.heap.size W w' :=
  ⟨(hb.cell (p := ⟨b, 0, none⟩) hz).trans h0, (hb.cell (p := ⟨b, 1, none⟩) hz).trans h1, (hb.cell (p := ⟨b, 2, none⟩) hz).trans h2, (hb.cell (p := ⟨b, 3, none⟩) hz).trans h3, hb⟩

set_option maxHeartbeats 4000000 in
theorem same9s_any (w : World) (t : Nat) (S : Nat → Prop) (r : Rw) (s : Sl) (h : SlS w t S s) (hr : RfS w r s) (hk : s.Ok) (i : Int) :
    Calls Try.prog 17 #[.pointer (some ⟨t, 0, none⟩), r.v s, .int .i64 i] w fun e w' => e = .returned (.bool true) ∧ Below w.heap.size w w' := by
  have k1 := hk.most
  have k2 := hk.pl
  have hul := used_le s hk
  have hln := hk.lenIs
  have c1 := fun W (hb : Below w.heap.size w W) => slat_any W t S s (h.keep hb) i
  have c2 := fun W (hb : Below w.heap.size w W) => rat_any W r s (hr.keep hb) hk i
  have c3 := fun W (hb : Below w.heap.size w W) => rused_any W r s (hr.keep hb) hk
  have c4 := fun W (hb : Below w.heap.size w W) => slused_any W t S s (h.keep hb) hk
  have c5 : ∀ W, Below w.heap.size w W → Calls Try.prog 20 #[.pointer (some ⟨t, 0, none⟩)] W fun e w' => e = .returned (.int .i64 s.len) ∧ Below W.heap.size W w' := fun W hb => (sllen_any W t S s (h.keep hb) hk).mono fun _ _ hh => ⟨hh.1, by obtain ⟨n, hw⟩ := hh.2; rw [hw]; exact below_drewN (Below.refl _ _) n⟩
  have c6 : ∀ W, Below w.heap.size w W → Calls Try.prog 21 #[.pointer (some ⟨t, 0, none⟩)] W fun e w' => e = .returned (.int .i64 s.most) ∧ Below W.heap.size W w' := fun W hb => (slcap_any W t S s (h.keep hb)).mono fun _ _ hh => ⟨hh.1, by rw [← hh.2]; exact Below.refl _ _⟩
  have C1 := Lib.hid c1
  have C2 := Lib.hid c2
  have C3 := Lib.hid c3
  have C4 := Lib.hid c4
  have C5 := Lib.hid c5
  have C6 := Lib.hid c6
  have HL := Lib.hid hln
  clear c1 c2 c3 c4 c5 c6 h hr hk hln
  unfold Rw.v Rw.va Rw.vb Rw.vc at *
  go_enter Try.func17, Try.ntmps17
  go_wp2_with fail
  refine (C1.out _ (by go_grown)).mono ?_
  rintro e w1 ⟨rfl, rfl⟩
  go_wp2_with fail
  refine (C2.out _ (by go_grown)).mono ?_
  rintro e w2 ⟨rfl, b2⟩
  have hw2 := below_of (w := w) (by go_grown) b2
  have x2 := (b2.block w.heap.size (by simp)).trans (hp_new rfl)
  obtain ⟨p0, p1, p2, p3, -, -, -, -, pz⟩ := four x2
  clear b2
  go_wp2_with fail
  refine (C3.out _ hw2).mono ?_
  rintro e w3 ⟨A3, c3, rfl, ho3, b3⟩
  have hw3 := below_of (w := w) hw2 b3
  have x3 := (b3.block w.heap.size pz).trans x2
  clear p0 p1 p2 p3
  obtain ⟨p0, p1, p2, p3, -, -, -, -, pz3⟩ := four x3
  have HO3 := Lib.hid (NatsPost.rd ho3).1
  clear b3 x2 x3 ho3
  obtain ⟨W, rfl⟩ : ∃ W, W = w3 := ⟨_, rfl⟩
  have t1 : (s.len == (s.used.length : Int)) = true := by rw [HL.out]; simp
  go_wp2_with fail
  go_region_held3 (fun w' => w'.cell? ⟨w.heap.size, 0, none⟩ = some (.slice r.A s.most r.ca) ∧ w'.cell? ⟨w.heap.size, 1, none⟩ = some (.slice r.B s.most r.cb) ∧ w'.cell? ⟨w.heap.size, 2, none⟩ = some (.slice r.C s.fr.length r.cc) ∧ w'.cell? ⟨w.heap.size, 3, none⟩ = some (.int .i64 s.pl.length) ∧ Below W.heap.size W w')
    (first | exact keepQ pz3 hkd p0 p1 p2 p3 | exact keepQ pz3 hkc p0 p1 p2 p3 | exact keepQ pz3 hkb p0 p1 p2 p3 | exact keepQ pz3 hka p0 p1 p2 p3 | (refine keepQ pz3 ?_ p0 p1 p2 p3; go_grown))
    (first
      | (go_at_call 19; refine (C4.out _ (below_of hw3 (by go_grown))).mono ?_; rintro e wa ⟨Aa, ca, rfl, hoa, hw⟩; have hka := below_of (w := W) (by go_grown) hw; have HOA := Lib.hid (NatsPost.rd hoa).1; clear hoa hw)
      | (go_at_call 22; refine (ints9_any s.used _ _ _ _ _ HOA.out (HO3.out.kept hka) (by omega)).mono ?_; rintro e wb ⟨rfl, hw⟩; have hkb := hka.trans (hw.mono hka.size); clear hw)
      | (go_at_call 20; refine (C5.out _ (below_of hw3 hkb)).mono ?_; rintro e wc ⟨rfl, hw⟩; have hkc := hkb.trans (hw.mono hkb.size); clear hw)
      | (go_at_call 21; refine (C6.out _ (below_of hw3 hkc)).mono ?_; rintro e wd ⟨rfl, hw⟩; have hkd := hkc.trans (hw.mono hkc.size); clear hw))
  all_goals
    go_wp2
    go_ret
    exact ⟨rfl, below_of hw3 hkd⟩

end Go.Proofs.Ytebgkoimphjagaa
