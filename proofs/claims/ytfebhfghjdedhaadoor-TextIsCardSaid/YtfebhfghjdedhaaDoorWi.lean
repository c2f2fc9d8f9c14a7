/-
  What From of package addr returns, for whatever list of bytes. No condition.
-/
import Derived.Test.YtfebhfghjdedhaaDoorWd
namespace Go.Proofs.YtfebhfghjdedhaaDoor
open Go.RowKit

def b8 (n : Int) : BitVec 64 := BitVec.ofInt 64 n
theorem u_b8 (n : Int) (h0 : 0 ≤ n) (h1 : n < 256) : u (b8 n) = n := by
  obtain ⟨k, rfl⟩ := Int.eq_ofNat_of_zero_le h0
  unfold u b8
  rw [BitVec.ofInt_natCast, BitVec.toNat_ofNat, Nat.mod_eq_of_lt (by omega)]
theorem shl_b8 (n : Int) (m : Nat) (h0 : 0 ≤ n) (h1 : n < 256) : IntKind.u64.wrap (n * 2 ^ m) = u (b8 n <<< m) := by
  have h := u_shl (b8 n) m
  rw [u_b8 n h0 h1] at h
  exact h
/-- The two words after k bytes. -/
def fHi (bs : Nat → Int) : Nat → BitVec 64
  | 0 => 0#64
  | k + 1 => if k < 8 then fHi bs k ||| b8 (bs k) <<< (plc ((k : Int) * 8 + 8 - 1)).toNat else fHi bs k
def fLo (bs : Nat → Int) : Nat → BitVec 64
  | 0 => 0#64
  | k + 1 => if k < 8 then fLo bs k else fLo bs k ||| b8 (bs k) <<< (plc ((k : Int) * 8 + 8 - 1)).toNat

def FromRel (w : World) (bs : Nat → Int) (k : Nat) (wr : World) : Prop :=
  wr.cell? ⟨w.heap.size + 1, 0, none⟩ = some (.int .u64 (u (fHi bs k))) ∧ wr.cell? ⟨w.heap.size + 1, 1, none⟩ = some (.int .u64 (u (fLo bs k))) ∧
    wr.frozen? ⟨w.heap.size + 1, 0, none⟩ = false ∧ wr.frozen? ⟨w.heap.size + 1, 1, none⟩ = false ∧
    wr.cell? ⟨w.heap.size, 0, none⟩ = some (.int .u64 0) ∧ wr.cell? ⟨w.heap.size, 1, none⟩ = some (.int .u64 0) ∧ wr.cell? ⟨w.heap.size, 2, none⟩ = some (.bool false) ∧
    wr.frozen? ⟨w.heap.size, 0, none⟩ = false ∧ wr.frozen? ⟨w.heap.size, 1, none⟩ = false ∧ wr.frozen? ⟨w.heap.size, 2, none⟩ = false ∧ w.heap.size + 1 < wr.heap.size ∧ Below w.heap.size w wr
def fromv (bs : Nat → Int) (v : Bool) : Ad := norm ⟨fHi bs (if v then 16 else 4), fLo bs (if v then 16 else 4), v⟩

set_option maxHeartbeats 400000 in
theorem from_bad (A : Option Addr) (n c : Nat) (h4 : n ≠ 4) (h16 : n ≠ 16) (w : World) :
    Calls Tryd.prog 15 #[.slice A n c] w fun e w' => e = .returned (.tuple #[.agg #[.int .u64 0, .int .u64 0, .bool false], .int .i64 4]) ∧ Below w.heap.size w w' := by
  have e1 : ((n : Int) == 16) = false := by simp; omega
  have e2 : ((n : Int) == 4) = false := by simp; omega
  go_enter Tryd.func15, Tryd.ntmps15
  go_wp2
  refine bodyPost_ret (v := .tuple #[.agg #[.int .u64 0, .int .u64 0, .bool false], .int .i64 4]) (by simp [*, results, Tryd.results15, go_sem] <;> rfl) rfl ⟨rfl, ?_⟩
  go_grown

set_option maxHeartbeats 1000000 in
theorem from_four (g off c : Nat) (bs : Nat → Int) (hbs : ∀ j, j < 4 → 0 ≤ bs j ∧ bs j < 256) (w : World) (hg : g < w.heap.size) (hcell : ∀ j, j < 4 → w.cell? ⟨g, off + j, none⟩ = some (.int .u8 (bs j))) :
    Calls Tryd.prog 15 #[.slice (some ⟨g, off, none⟩) 4 c] w fun e w' => e = .returned (.tuple #[.agg #[.int .u64 (u (fromv bs false).hi), .int .u64 (u (fromv bs false).lo), .bool (fromv bs false).v6], .int .i64 0]) ∧ Below w.heap.size w w' := by
  have Hbs := Lib.hid hbs
  have Hcell := Lib.hid hcell
  clear hbs hcell
  go_enter Tryd.func15, Tryd.ntmps15
  go_wp2_with fail
  go_loopw [22] (fun i wr => ∃ k : Nat, k ≤ 4 ∧ i = .int .i64 k ∧ FromRel w bs k wr) (fun i _ => 4 - (intOf i).toNat)
  case atStart =>
    refine ⟨0, Nat.zero_le _, rfl, ?_⟩
    unfold FromRel
    refine ⟨?_, ?_, ?_, ?_, ?_, ?_, ?_, ?_, ?_, ?_, ?_, ?_⟩
    all_goals first | (go_simp; done) | (go_simp <;> rfl) | go_grown
  case round =>
    obtain ⟨k, hk, rfl, hc0, hc1, hf0, hf1, qa, qb, qc, qd, qe, qf, hwz, hB⟩ := hrel
    by_cases hlt : k < 4
    · have hlt' : (k : Int) < 4 := by omega
      obtain ⟨hb0, hb1⟩ := Hbs.out k hlt
      have hck : wr.cell? ⟨g, off + k, none⟩ = some (.int .u8 (bs k)) := (hB.cell (p := ⟨g, off + k, none⟩) hg).trans (Hcell.out k hlt)
      have hQ : (↑k * 8 + 8 - 1 : Int) / 64 = 0 := by omega
      obtain ⟨p0, p1⟩ := plc_bd (↑k * 8 + 8 - 1)
      have hm : min (plc (↑k * 8 + 8 - 1)).toNat 64 = (plc (↑k * 8 + 8 - 1)).toNat := by omega
      have hs := shl_b8 (bs k) (plc (↑k * 8 + 8 - 1)).toNat hb0 hb1
      have ho := u_or (fHi bs k) (b8 (bs k) <<< (plc (↑k * 8 + 8 - 1)).toNat)
      have eHi := Lib.hid (show fHi bs (k + 1) = fHi bs k ||| b8 (bs k) <<< (plc ((k : Int) * 8 + 8 - 1)).toNat from by simp only [fHi]; exact if_pos (by omega))
      have eLo := Lib.hid (show fLo bs (k + 1) = fLo bs k from by simp only [fLo]; exact if_pos (by omega))
      go_wp2_with fail
      obtain ⟨W, rfl⟩ : ∃ W, W = wr := ⟨_, rfl⟩
      have hz := hB.size
      have L0 := fun x : Later W.heap.size W => (x.cell (p := ⟨w.heap.size + 1, 0, none⟩) (by simp; omega)).trans hc0
      have L1 := fun x : Later W.heap.size W => (x.cell (p := ⟨w.heap.size + 1, 1, none⟩) (by simp; omega)).trans hc1
      refine region_tail 11 W.heap.size (by kernel_rfl) (by kernel_rfl) ?_
      simp only [List.take_succ_cons, List.take_zero, List.drop_succ_cons, List.drop_zero]
      repeat (go_big_quiet_step ((go_at_call 36; exact later_same (place_any _ (by omega) (by omega) _))))
      refine wpQuiet_nil ?_
      intro x
      have hx : Below w.heap.size w x.at := hB.trans (x.below.mono hz)
      obtain ⟨ra, rb, rc, rd, rz⟩ := cells2 x.below hwz hc0 hc1 hf0 hf1
      obtain ⟨pa, pb, pc, pd, pe, pf, pz⟩ := cells3 x.below (by omega) qa qb qc qd qe qf
      clear L0 L1 hck hc0 hc1 hf0 hf1 qa qb qc qd qe qf hwz
      generalize x.at = w3 at *
      clear x hB hz W
      go_wp2_with fail
      refine ⟨⟨k + 1, by omega, by go_num, ?_⟩, by simp [intOf]; omega⟩
      unfold FromRel
      rw [eHi.out, eLo.out]
      refine ⟨?_, ?_, ?_, ?_, ?_, ?_, ?_, ?_, ?_, ?_, ?_, ?_⟩
      all_goals first | (go_simp; done) | (simp only [World.size_setCell]; exact rz) | go_grown
    · obtain rfl : k = 4 := by omega
      go_wp2_with fail
      refine (whole_any ⟨fHi bs 4, fLo bs 4, false⟩ _).mono ?_
      rintro e w5 ⟨rfl, h5⟩
      have b5 := hB.trans (h5.mono hB.size)
      obtain ⟨pa, pb, pc, pd, pe, pf, pz⟩ := cells3 h5 (by omega) qa qb qc qd qe qf
      clear h5
      go_wp2
      refine bodyPost_ret (v := .tuple #[.agg #[.int .u64 (u (norm ⟨fHi bs 4, fLo bs 4, false⟩).hi), .int .u64 (u (norm ⟨fHi bs 4, fLo bs 4, false⟩).lo), .bool (norm ⟨fHi bs 4, fLo bs 4, false⟩).v6], .int .i64 0]) (by simp [*, results, Tryd.results15, go_sem] <;> rfl) rfl ⟨rfl, ?_⟩
      go_grown

set_option maxHeartbeats 1000000 in
theorem from_six (g off c : Nat) (bs : Nat → Int) (hbs : ∀ j, j < 16 → 0 ≤ bs j ∧ bs j < 256) (w : World) (hg : g < w.heap.size) (hcell : ∀ j, j < 16 → w.cell? ⟨g, off + j, none⟩ = some (.int .u8 (bs j))) :
    Calls Tryd.prog 15 #[.slice (some ⟨g, off, none⟩) 16 c] w fun e w' => e = .returned (.tuple #[.agg #[.int .u64 (u (fromv bs true).hi), .int .u64 (u (fromv bs true).lo), .bool (fromv bs true).v6], .int .i64 0]) ∧ Below w.heap.size w w' := by
  have Hbs := Lib.hid hbs
  have Hcell := Lib.hid hcell
  clear hbs hcell
  go_enter Tryd.func15, Tryd.ntmps15
  go_wp2_with fail
  go_loopw [22] (fun i wr => ∃ k : Nat, k ≤ 16 ∧ i = .int .i64 k ∧ FromRel w bs k wr) (fun i _ => 16 - (intOf i).toNat)
  case atStart =>
    refine ⟨0, Nat.zero_le _, rfl, ?_⟩
    unfold FromRel
    refine ⟨?_, ?_, ?_, ?_, ?_, ?_, ?_, ?_, ?_, ?_, ?_, ?_⟩
    all_goals first | (go_simp; done) | (go_simp <;> rfl) | go_grown
  case round =>
    obtain ⟨k, hk, rfl, hc0, hc1, hf0, hf1, qa, qb, qc, qd, qe, qf, hwz, hB⟩ := hrel
    by_cases hlt : k < 16
    · have hlt' : (k : Int) < 16 := by omega
      obtain ⟨hb0, hb1⟩ := Hbs.out k hlt
      have hck : wr.cell? ⟨g, off + k, none⟩ = some (.int .u8 (bs k)) := (hB.cell (p := ⟨g, off + k, none⟩) hg).trans (Hcell.out k hlt)
      by_cases h8 : k < 8
      · have hQ : (↑k * 8 + 8 - 1 : Int) / 64 = 0 := by omega
        obtain ⟨p0, p1⟩ := plc_bd (↑k * 8 + 8 - 1)
        have hm : min (plc (↑k * 8 + 8 - 1)).toNat 64 = (plc (↑k * 8 + 8 - 1)).toNat := by omega
        have hs := shl_b8 (bs k) (plc (↑k * 8 + 8 - 1)).toNat hb0 hb1
        have ho := u_or (fHi bs k) (b8 (bs k) <<< (plc (↑k * 8 + 8 - 1)).toNat)
        have eHi := Lib.hid (show fHi bs (k + 1) = fHi bs k ||| b8 (bs k) <<< (plc ((k : Int) * 8 + 8 - 1)).toNat from by simp only [fHi]; exact if_pos (by omega))
        have eLo := Lib.hid (show fLo bs (k + 1) = fLo bs k from by simp only [fLo]; exact if_pos (by omega))
        go_wp2_with fail
        obtain ⟨W, rfl⟩ : ∃ W, W = wr := ⟨_, rfl⟩
        have hz := hB.size
        have L0 := fun x : Later W.heap.size W => (x.cell (p := ⟨w.heap.size + 1, 0, none⟩) (by simp; omega)).trans hc0
        have L1 := fun x : Later W.heap.size W => (x.cell (p := ⟨w.heap.size + 1, 1, none⟩) (by simp; omega)).trans hc1
        refine region_tail 11 W.heap.size (by kernel_rfl) (by kernel_rfl) ?_
        simp only [List.take_succ_cons, List.take_zero, List.drop_succ_cons, List.drop_zero]
        repeat (go_big_quiet_step ((go_at_call 36; exact later_same (place_any _ (by omega) (by omega) _))))
        refine wpQuiet_nil ?_
        intro x
        have hx : Below w.heap.size w x.at := hB.trans (x.below.mono hz)
        obtain ⟨ra, rb, rc, rd, rz⟩ := cells2 x.below hwz hc0 hc1 hf0 hf1
        obtain ⟨pa, pb, pc, pd, pe, pf, pz⟩ := cells3 x.below (by omega) qa qb qc qd qe qf
        clear L0 L1 hck hc0 hc1 hf0 hf1 qa qb qc qd qe qf hwz
        generalize x.at = w3 at *
        clear x hB hz W
        go_wp2_with fail
        refine ⟨⟨k + 1, by omega, by go_num, ?_⟩, by simp [intOf]; omega⟩
        unfold FromRel
        rw [eHi.out, eLo.out]
        refine ⟨?_, ?_, ?_, ?_, ?_, ?_, ?_, ?_, ?_, ?_, ?_, ?_⟩
        all_goals first | (go_simp; done) | (simp only [World.size_setCell]; exact rz) | go_grown
      · have hQ : (↑k * 8 + 8 - 1 : Int) / 64 = 1 := by omega
        obtain ⟨p0, p1⟩ := plc_bd (↑k * 8 + 8 - 1)
        have hm : min (plc (↑k * 8 + 8 - 1)).toNat 64 = (plc (↑k * 8 + 8 - 1)).toNat := by omega
        have hs := shl_b8 (bs k) (plc (↑k * 8 + 8 - 1)).toNat hb0 hb1
        have ho := u_or (fLo bs k) (b8 (bs k) <<< (plc (↑k * 8 + 8 - 1)).toNat)
        have eHi := Lib.hid (show fHi bs (k + 1) = fHi bs k from by simp only [fHi]; exact if_neg (by omega))
        have eLo := Lib.hid (show fLo bs (k + 1) = fLo bs k ||| b8 (bs k) <<< (plc ((k : Int) * 8 + 8 - 1)).toNat from by simp only [fLo]; exact if_neg (by omega))
        go_wp2_with fail
        obtain ⟨W, rfl⟩ : ∃ W, W = wr := ⟨_, rfl⟩
        have hz := hB.size
        have L0 := fun x : Later W.heap.size W => (x.cell (p := ⟨w.heap.size + 1, 0, none⟩) (by simp; omega)).trans hc0
        have L1 := fun x : Later W.heap.size W => (x.cell (p := ⟨w.heap.size + 1, 1, none⟩) (by simp; omega)).trans hc1
        refine region_tail 11 W.heap.size (by kernel_rfl) (by kernel_rfl) ?_
        simp only [List.take_succ_cons, List.take_zero, List.drop_succ_cons, List.drop_zero]
        repeat (go_big_quiet_step ((go_at_call 36; exact later_same (place_any _ (by omega) (by omega) _))))
        refine wpQuiet_nil ?_
        intro x
        have hx : Below w.heap.size w x.at := hB.trans (x.below.mono hz)
        obtain ⟨ra, rb, rc, rd, rz⟩ := cells2 x.below hwz hc0 hc1 hf0 hf1
        obtain ⟨pa, pb, pc, pd, pe, pf, pz⟩ := cells3 x.below (by omega) qa qb qc qd qe qf
        clear L0 L1 hck hc0 hc1 hf0 hf1 qa qb qc qd qe qf hwz
        generalize x.at = w3 at *
        clear x hB hz W
        go_wp2_with fail
        refine ⟨⟨k + 1, by omega, by go_num, ?_⟩, by simp [intOf]; omega⟩
        unfold FromRel
        rw [eHi.out, eLo.out]
        refine ⟨?_, ?_, ?_, ?_, ?_, ?_, ?_, ?_, ?_, ?_, ?_, ?_⟩
        all_goals first | (go_simp; done) | (simp only [World.size_setCell]; exact rz) | go_grown
    · obtain rfl : k = 16 := by omega
      go_wp2_with fail
      refine (whole_any ⟨fHi bs 16, fLo bs 16, true⟩ _).mono ?_
      rintro e w5 ⟨rfl, h5⟩
      have b5 := hB.trans (h5.mono hB.size)
      obtain ⟨pa, pb, pc, pd, pe, pf, pz⟩ := cells3 h5 (by omega) qa qb qc qd qe qf
      clear h5
      go_wp2
      refine bodyPost_ret (v := .tuple #[.agg #[.int .u64 (u (norm ⟨fHi bs 16, fLo bs 16, true⟩).hi), .int .u64 (u (norm ⟨fHi bs 16, fLo bs 16, true⟩).lo), .bool (norm ⟨fHi bs 16, fLo bs 16, true⟩).v6], .int .i64 0]) (by simp [*, results, Tryd.results15, go_sem] <;> rfl) rfl ⟨rfl, ?_⟩
      go_grown

end Go.Proofs.YtfebhfghjdedhaaDoor
