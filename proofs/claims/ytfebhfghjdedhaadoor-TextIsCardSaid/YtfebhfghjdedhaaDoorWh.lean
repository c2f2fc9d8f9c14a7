/-
  What Bytes of package addr returns. No condition.
-/
import Derived.Test.YtfebhfghjdedhaaDoorWd
import Derived.Deep.OwnRows
namespace Go.Proofs.YtfebhfghjdedhaaDoor
open Go.RowKit

def nb (v : Bool) : Nat := if v then 16 else 4
def byteAt (a : Ad) (k : Nat) : Int := u (wordOf (norm a) ((k : Int) * 8 + 8 - 1) >>> (plc ((k : Int) * 8 + 8 - 1)).toNat) % 256
theorem byteAt_of (a : Ad) (k : Nat) (x : BitVec 64) (h : wordOf (norm a) ((k : Int) * 8 + 8 - 1) = x) : u (x >>> (plc ((k : Int) * 8 + 8 - 1)).toNat) % 256 = byteAt a k := by subst h; rfl
def BytesPost (w : World) (a : Ad) (e : Ending) (w' : World) : Prop :=
  ∃ g : Nat, e = .returned (.slice (some ⟨g, 0, none⟩) (nb a.v6) (nb a.v6)) ∧ w.heap.size ≤ g ∧ w'.rowIs g 5 (nb a.v6) (fun k => .int .u8 (byteAt a k)) ∧ Below w.heap.size w w'
def BytesRel (w : World) (a : Ad) (r g k : Nat) (wr : World) : Prop :=
  wr.rowIs g 5 (nb a.v6) (fun j => if j < k then .int .u8 (byteAt a j) else .int .u8 0) ∧ wr.cell? ⟨r, 0, none⟩ = some (.int .u64 (u (norm a).hi)) ∧ wr.cell? ⟨r, 1, none⟩ = some (.int .u64 (u (norm a).lo)) ∧ r < g ∧ Below w.heap.size w wr

theorem info_u8 : (Tryd.prog.info? 5).map (fun i => (i.zero, i.size, i.bytes)) = some (some (.int .u8 0), 1, 1) := by kernel_rfl
theorem nb_wid (v : Bool) : wid v / 8 = (nb v : Int) := by cases v <;> rfl
theorem nb_le (v : Bool) : nb v ≤ 16 ∧ 4 ≤ nb v := by cases v <;> decide

set_option maxHeartbeats 1000000 in
theorem bytes_any (a : Ad) (w : World) :
    Calls Tryd.prog 24 #[.agg #[.int .u64 (u a.hi), .int .u64 (u a.lo), .bool a.v6]] w (BytesPost w a) := by
  have hn := nb_le a.v6
  have hq := nb_wid a.v6
  have hwd := wid_bd a.v6
  have hmk := fun W : World => run_make_row' (P := Tryd.prog) 36 5 (.int .u8 0) 1 Tryd.underlying36 info_u8 rfl .i64 .i64 (nb a.v6) (by omega) (by omega) W
  go_enter Tryd.func24, Tryd.ntmps24
  go_wp2_with fail
  refine (split_any a _).mono ?_
  rintro e w1 ⟨rfl, hw1⟩
  have zw1 := hw1.size
  have bw1 := below_of (w := w) (by go_grown) hw1
  try simp at zw1
  obtain ⟨pa, pb, pc, pd, pe, pf, pz⟩ := cells3 (b := w.heap.size) hw1 (by go_size) (by go_simp <;> rfl) (by go_simp <;> rfl) (by go_simp <;> rfl) (by go_simp <;> rfl) (by go_simp <;> rfl) (by go_simp <;> rfl)
  clear hw1
  go_wp2_with fail
  refine (width_any a.v6 _).mono ?_
  rintro e w2 ⟨rfl, rfl⟩
  go_wp2_with fail
  clear hmk
  go_loopw [16] (fun i wr => ∃ k : Nat, k ≤ nb a.v6 ∧ i = .int .i64 k ∧ BytesRel w a w1.heap.size (w1.heap.size + 1) k wr) (fun i _ => nb a.v6 - (intOf i).toNat)
  case atStart =>
    refine ⟨0, Nat.zero_le _, rfl, ?_, ?_, ?_, by omega, ?_⟩
    · have h0 := World.rowIs_made (w1.alloc (.cells #[.int .u64 (u (norm a).hi), .int .u64 (u (norm a).lo)] 60)) (.int .u8 0) (nb a.v6) 5
      rw [World.size_alloc] at h0
      exact h0.congr fun j _ => (if_neg (Nat.not_lt_zero j)).symm
    · go_simp
    · go_simp
    · go_grown
  case round =>
    obtain ⟨k, hk, rfl, hrow, hc0, hc1, hrg, hB⟩ := hrel
    obtain ⟨W, rfl⟩ : ∃ W, W = wr := ⟨_, rfl⟩
    by_cases hlt : k < nb a.v6
    · have hlt' : (k : Int) < (nb a.v6 : Int) := by omega
      by_cases h8 : k < 8
      · have hQ : (↑k * 8 + 8 - 1 : Int) / 64 = 0 := by omega
        obtain ⟨p0, p1⟩ := plc_bd (↑k * 8 + 8 - 1)
        have hm : min (plc (↑k * 8 + 8 - 1)).toNat 64 = (plc (↑k * 8 + 8 - 1)).toNat := by omega
        have hs := shr_of (norm a).hi (plc (↑k * 8 + 8 - 1))
        have hz := hB.size
        have hgt := hrow.lt
        have hck : W.cell? ⟨w1.heap.size + 1, k, none⟩ = some (.int .u8 0) := by rw [hrow.cell hlt, if_neg (Nat.lt_irrefl _)]
        have hfk := hrow.frozen k
        have L0 := fun x : Later W.heap.size W => (x.cell (p := ⟨w1.heap.size, 0, none⟩) (by simp; omega)).trans hc0
        have L1 := fun x : Later W.heap.size W => (x.cell (p := ⟨w1.heap.size, 1, none⟩) (by simp; omega)).trans hc1
        have Hrow := Lib.hid hrow
        clear hrow
        go_wp2_with fail
        refine region_tail 11 W.heap.size (by kernel_rfl) (by kernel_rfl) ?_
        simp only [List.take_succ_cons, List.take_zero, List.drop_succ_cons, List.drop_zero]
        repeat (go_big_quiet_step ((go_at_call 36; exact later_same (place_any _ (by omega) (by omega) _))))
        refine wpQuiet_nil ?_
        intro x
        have hx : Below w.heap.size w x.at := hB.trans (x.below.mono hz)
        have Hr3 := Lib.hid (Hrow.out.of_block (x.below.block _ hgt))
        have c0 := L0 x
        have c1 := L1 x
        have ck := (x.below.cell (p := ⟨w1.heap.size + 1, k, none⟩) hgt).trans hck
        have fk := (x.below.frozen (p := ⟨w1.heap.size + 1, k, none⟩) hgt).trans hfk
        clear L0 L1 hck hfk hgt hc0 hc1 Hrow
        generalize x.at = w3 at *
        clear x hB hz W
        go_wp2_with fail
        refine ⟨⟨k + 1, by omega, by go_num, ?_, ?_, ?_, hrg, ?_⟩, by simp [intOf]; omega⟩
        · refine (Hr3.out.set k _).congr fun j hj => ?_
          by_cases e : j = k
          · subst e
            rw [if_pos rfl, if_pos (Nat.lt_succ_self _)]
            exact congrArg (Value.int IntKind.u8) (byteAt_of a j _ (if_pos (by omega)))
          · rw [if_neg e]
            by_cases e2 : j < k
            · rw [if_pos e2, if_pos (by omega)]
            · rw [if_neg e2, if_neg (by omega)]
        · rw [World.cell?_setCell_other _ _ _ _ (fun e => by injection e; omega)]
          exact c0
        · rw [World.cell?_setCell_other _ _ _ _ (fun e => by injection e; omega)]
          exact c1
        · exact hx.setCell (by simp; omega) _
      · have hQ : (↑k * 8 + 8 - 1 : Int) / 64 = 1 := by omega
        obtain ⟨p0, p1⟩ := plc_bd (↑k * 8 + 8 - 1)
        have hm : min (plc (↑k * 8 + 8 - 1)).toNat 64 = (plc (↑k * 8 + 8 - 1)).toNat := by omega
        have hs := shr_of (norm a).lo (plc (↑k * 8 + 8 - 1))
        have hz := hB.size
        have hgt := hrow.lt
        have hck : W.cell? ⟨w1.heap.size + 1, k, none⟩ = some (.int .u8 0) := by rw [hrow.cell hlt, if_neg (Nat.lt_irrefl _)]
        have hfk := hrow.frozen k
        have L0 := fun x : Later W.heap.size W => (x.cell (p := ⟨w1.heap.size, 0, none⟩) (by simp; omega)).trans hc0
        have L1 := fun x : Later W.heap.size W => (x.cell (p := ⟨w1.heap.size, 1, none⟩) (by simp; omega)).trans hc1
        have Hrow := Lib.hid hrow
        clear hrow
        go_wp2_with fail
        refine region_tail 11 W.heap.size (by kernel_rfl) (by kernel_rfl) ?_
        simp only [List.take_succ_cons, List.take_zero, List.drop_succ_cons, List.drop_zero]
        repeat (go_big_quiet_step ((go_at_call 36; exact later_same (place_any _ (by omega) (by omega) _))))
        refine wpQuiet_nil ?_
        intro x
        have hx : Below w.heap.size w x.at := hB.trans (x.below.mono hz)
        have Hr3 := Lib.hid (Hrow.out.of_block (x.below.block _ hgt))
        have c0 := L0 x
        have c1 := L1 x
        have ck := (x.below.cell (p := ⟨w1.heap.size + 1, k, none⟩) hgt).trans hck
        have fk := (x.below.frozen (p := ⟨w1.heap.size + 1, k, none⟩) hgt).trans hfk
        clear L0 L1 hck hfk hgt hc0 hc1 Hrow
        generalize x.at = w3 at *
        clear x hB hz W
        go_wp2_with fail
        refine ⟨⟨k + 1, by omega, by go_num, ?_, ?_, ?_, hrg, ?_⟩, by simp [intOf]; omega⟩
        · refine (Hr3.out.set k _).congr fun j hj => ?_
          by_cases e : j = k
          · subst e
            rw [if_pos rfl, if_pos (Nat.lt_succ_self _)]
            exact congrArg (Value.int IntKind.u8) (byteAt_of a j _ (if_neg (by omega)))
          · rw [if_neg e]
            by_cases e2 : j < k
            · rw [if_pos e2, if_pos (by omega)]
            · rw [if_neg e2, if_neg (by omega)]
        · rw [World.cell?_setCell_other _ _ _ _ (fun e => by injection e; omega)]
          exact c0
        · rw [World.cell?_setCell_other _ _ _ _ (fun e => by injection e; omega)]
          exact c1
        · exact hx.setCell (by simp; omega) _
    · obtain rfl : k = nb a.v6 := by omega
      have hlt' : ¬ ((nb a.v6 : Nat) : Int) < (nb a.v6 : Int) := by omega
      have Hrow := Lib.hid hrow
      clear hrow
      go_wp2
      go_ret
      exact ⟨_, rfl, by omega, Hrow.out.congr fun j hj => if_pos hj, hB⟩

end Go.Proofs.YtfebhfghjdedhaaDoor
