/-
  What Same of the document's answer for layer 4 and PutAll of package wire return. Condition: the routes lie where the arguments say.
-/
import Derived.Test.YtibhabglmkgaaaaVh
namespace Go.Proofs.Ytibhabglmkgaaaa
open Go.RowKit
set_option maxRecDepth 100000

theorem RdR.at_ {w : World} {A : Option Addr} {rs : List Rt} (h : RdR w A rs) {k : Nat} (hk : k < rs.length) : ∃ g off, A = some ⟨g, off, none⟩ ∧ g < w.heap.size ∧ w.cell? ⟨g, off + k * 5, none⟩ = some (.int .u64 (u rs[k].p.a.hi)) ∧ w.cell? ⟨g, off + k * 5 + 1, none⟩ = some (.int .u64 (u rs[k].p.a.lo)) ∧ w.cell? ⟨g, off + k * 5 + 2, none⟩ = some (.bool rs[k].p.a.v6) ∧ w.cell? ⟨g, off + k * 5 + 3, none⟩ = some (.int .i64 rs[k].p.n) ∧ w.cell? ⟨g, off + k * 5 + 4, none⟩ = some (.int .i64 rs[k].hop) := by
  obtain ⟨g, off, e, hg, hc⟩ := h (fun e => by rw [e] at hk; simp at hk)
  exact ⟨g, off, e, hg, hc k hk⟩

set_option maxHeartbeats 2000000 in
theorem same_yes (A B : Option Addr) (c d : Nat) (rs : List Rt) (w : World) (hb : rs.length ≤ 1000000) (h1 : RdR w A rs) (h2 : RdR w B rs) :
    Calls Try.prog 16 #[.slice A rs.length c, .slice B rs.length d] w fun e w' => e = .returned (.bool true) ∧ Below w.heap.size w w' := by
  have H1 := Lib.hid h1
  have H2 := Lib.hid h2
  clear h1 h2
  go_enter Try.func16, Try.ntmps16
  go_wp2_with fail
  go_loopw [5] (fun i wr => ∃ k : Nat, k ≤ rs.length ∧ i = .int .i64 k ∧ Below w.heap.size w wr) (fun i _ => rs.length - (intOf i).toNat)
  case atStart => exact ⟨0, Nat.zero_le _, rfl, Below.refl _ _⟩
  case round =>
    obtain ⟨k, hk, rfl, hB⟩ := hrel
    by_cases hlt : k < rs.length
    · have hlt' : (k : Int) < (rs.length : Int) := by omega
      have hk0 : (0 : Int) ≤ (k : Int) := by omega
      obtain ⟨g, off, rfl, hg, a0, a1, a2, a3, a4⟩ := (H1.out.keep hB).at_ hlt
      obtain ⟨g', off', rfl, hg', b0, b1, b2, b3, b4⟩ := (H2.out.keep hB).at_ hlt
      generalize rs[k] = r at *
      obtain ⟨W, rfl⟩ : ∃ W, W = wr := ⟨_, rfl⟩
      have hz := hB.size
      have A0 := fun x : Later W.heap.size W => (x.cell (p := ⟨g, off + k * 5, none⟩) hg).trans a0
      have A1 := fun x : Later W.heap.size W => (x.cell (p := ⟨g, off + k * 5 + 1, none⟩) hg).trans a1
      have A2 := fun x : Later W.heap.size W => (x.cell (p := ⟨g, off + k * 5 + 2, none⟩) hg).trans a2
      have A3 := fun x : Later W.heap.size W => (x.cell (p := ⟨g, off + k * 5 + 3, none⟩) hg).trans a3
      have A4 := fun x : Later W.heap.size W => (x.cell (p := ⟨g, off + k * 5 + 4, none⟩) hg).trans a4
      have B0 := fun x : Later W.heap.size W => (x.cell (p := ⟨g', off' + k * 5, none⟩) hg').trans b0
      have B1 := fun x : Later W.heap.size W => (x.cell (p := ⟨g', off' + k * 5 + 1, none⟩) hg').trans b1
      have B2 := fun x : Later W.heap.size W => (x.cell (p := ⟨g', off' + k * 5 + 2, none⟩) hg').trans b2
      have B3 := fun x : Later W.heap.size W => (x.cell (p := ⟨g', off' + k * 5 + 3, none⟩) hg').trans b3
      have B4 := fun x : Later W.heap.size W => (x.cell (p := ⟨g', off' + k * 5 + 4, none⟩) hg').trans b4
      clear a0 a1 a2 a3 a4 b0 b1 b2 b3 b4
      go_wp2_with fail
      refine region_later W.heap.size (by kernel_rfl) (by kernel_rfl) ?_
      repeat (go_big_quiet_step (fail))
      refine wpQuiet_nil ?_
      intro x
      have hx : Below w.heap.size w x.at := hB.trans (x.below.mono hz)
      clear A0 A1 A2 A3 A4 B0 B1 B2 B3 B4
      generalize x.at = w2 at *
      clear x
      go_wp2_with fail
      refine ⟨⟨k + 1, by omega, by go_num, hx⟩, by simp [intOf]; omega⟩
    · obtain rfl : k = rs.length := by omega
      have hlt' : ¬ (rs.length : Int) < (rs.length : Int) := by omega
      go_wp2
      go_ret
      exact ⟨rfl, hB⟩

theorem putL_take (rs : List Rt) (k : Nat) (h : k < rs.length) : putL (rs.take (k + 1)) = putL (rs.take k) ++ putR rs[k] := by
  rw [List.take_succ_eq_append_getElem h]
  unfold putL
  rw [List.flatMap_append]
  simp
theorem putL_le (rs : List Rt) : (putL rs).length ≤ 20 * rs.length := by
  induction rs with
  | nil => simp [putL]
  | cons r rs ih =>
    have := putR_le r
    have e : putL (r :: rs) = putR r ++ putL rs := rfl
    rw [e, List.length_append, List.length_cons]
    omega
set_option maxHeartbeats 2000000 in
theorem putAll_any (A : Option Addr) (c : Nat) (rs : List Rt) (w : World) (hb : rs.length ≤ 20000) (h1 : RdR w A rs) : Calls Try.prog 23 #[.slice A rs.length c] w (RowPost w (putL rs)) := by
  have H1 := Lib.hid h1
  clear h1
  go_enter Try.func23, Try.ntmps23
  go_wp2_with fail
  go_loopw [3, 8] (fun v i wr => ∃ k : Nat, k ≤ rs.length ∧ i = .int .i64 k ∧ wr.ownsRow w.heap.size 5 1 v (putL (rs.take k)).length (bv (putL (rs.take k))) ∧ Below w.heap.size w wr) (fun _ i _ => rs.length - (intOf i).toNat)
  case atStart => exact ⟨0, Nat.zero_le _, rfl, World.ownsRow_nil _ _ _ _, Below.refl _ _⟩
  case round =>
    obtain ⟨k, hk, rfl, hown, hB⟩ := hrel
    have Hown := Lib.hid hown
    have hz := hB.size
    clear hown
    by_cases hlt : k < rs.length
    · have hlt' : (k : Int) < (rs.length : Int) := by omega
      have hk0 : (0 : Int) ≤ (k : Int) := by omega
      have Htk := Lib.hid (putL_take rs k hlt)
      have hle1 := putL_le (rs.take k)
      have hle2 : (rs.take k).length ≤ k := List.length_take_le _ _
      have hle3 : (putL (rs.take k)).length ≤ 400000 := by omega
      obtain ⟨g, off, rfl, hg, a0, a1, a2, a3, a4⟩ := (H1.out.keep hB).at_ hlt
      generalize rs[k] = r at *
      have hle4 := putR_le r
      clear hle1 hle2
      go_wp2_with fail
      refine (routeBytes_any r _).mono ?_
      rintro e w2 ⟨v2, rfl, ho2, hw2⟩
      obtain ⟨_, B, d, rfl, hr2⟩ := own_rd ho2 (bd_putR r)
      have bw2 := hB.trans ((below_of (w := wr) (by go_grown) hw2).mono hz)
      have z2 := bw2.size
      have Ho2 := Lib.hid (own_keep (Hown.out.alloc _) hw2)
      have Hr2 := Lib.hid hr2
      clear ho2 hw2 hr2 a0 a1 a2 a3 a4
      go_wp2_with (
        at_builtin
        refine wpList_bytes rfl (.tmp 12) (.tmp 14) rfl w.heap.size _ _ _ (by rfl) Ho2.out _ _ d (putR r) (by rfl) rfl Hr2.out (by omega) z2 ?_
        intro v3 w3 ho3 hb3
        have H3 := Lib.hid ho3
        clear ho3
        )
      refine ⟨⟨k + 1, by omega, by go_num, ?_, bw2.trans hb3⟩, by simp [intOf]; omega⟩
      rw [Htk.out]
      exact own_fit H3.out
    · obtain rfl : k = rs.length := by omega
      have hlt' : ¬ (rs.length : Int) < (rs.length : Int) := by omega
      have Ho := Lib.hid (show wr.ownsRow w.heap.size 5 1 u3 (putL rs).length (bv (putL rs)) by have := Hown.out; rwa [List.take_length] at this)
      clear Hown
      go_wp2
      go_ret
      exact ⟨_, rfl, Ho.out, hB⟩

end Go.Proofs.Ytibhabglmkgaaaa
