/-
  What Of of the document's answer for layer 1 return. No condition.
-/
import Derived.Test.YtfebhfghjdedhaaDoorRefA
import Derived.Test.YtfebhfghjdedhaaDoorMathF
import Derived.Test.YtfebhfghjdedhaaDoorReg
namespace Go.Proofs.YtfebhfghjdedhaaDoor
open Go.RowKit

def oHi (dl : Nat → Int) : Nat → BitVec 64
  | 0 => 0#64
  | k + 1 => if k < 64 then oHi dl k ||| b8 (dl k) <<< (63 - k) else oHi dl k
def oLo (dl : Nat → Int) : Nat → BitVec 64
  | 0 => 0#64
  | k + 1 => if k < 64 then oLo dl k else oLo dl k ||| b8 (dl k) <<< (127 - k)
def ofv (dl : Nat → Int) (v : Bool) : Ad := ⟨oHi dl (wd v), oLo dl (wd v), v⟩

theorem wd_128 (v : Bool) : ((wd v : Int) == 128) = v := by cases v <;> decide

set_option maxHeartbeats 1000000 in
theorem of_any (v : Bool) (g cap : Nat) (dl : Nat → Int) (w : World) (hg : g < w.heap.size) (hcell : ∀ j, j < wd v → w.cell? ⟨g, j, none⟩ = some (.int .i64 (dl j))) (hdl : ∀ j, j < wd v → 0 ≤ dl j ∧ dl j ≤ 1) :
    Calls Tryd.prog 61 #[.slice (some ⟨g, 0, none⟩) (wd v) cap] w fun e w' => e = .returned (.agg #[.int .u64 (u (ofv dl v).hi), .int .u64 (u (ofv dl v).lo), .bool (ofv dl v).v6]) ∧ Below w.heap.size w w' := by
  have hw := wd_lb v
  have hv := wd_128 v
  have Hcell := Lib.hid hcell
  have Hdl := Lib.hid hdl
  clear hcell hdl
  go_enter Tryd.func61, Tryd.ntmps61
  go_wp2_with fail
  go_loopw [4] (fun i wr => ∃ k : Nat, k ≤ wd v ∧ i = .int .i64 k ∧ Box wr w.heap.size ⟨0#64, 0#64, false⟩ ∧ Box wr (w.heap.size + 1) ⟨oHi dl k, oLo dl k, v⟩ ∧ Below w.heap.size w wr) (fun i _ => wd v - (intOf i).toNat)
  case atStart =>
    refine ⟨0, by omega, rfl, ?_, ?_, ?_⟩
    · refine ⟨?_, ?_, ?_, ?_, ?_, ?_, ?_⟩ <;> first | (go_simp; done) | (go_simp <;> rfl) | go_size
    · refine ⟨?_, ?_, ?_, ?_, ?_, ?_, ?_⟩ <;> first | (go_simp; done) | (go_simp <;> rfl) | go_size
    · go_grown
  case round =>
    obtain ⟨k, hk, rfl, ⟨pa, pb, pc, pd, pe, pf, pz⟩, ⟨qa, qb, qc, qd, qe, qf, qz⟩, hB⟩ := hrel
    by_cases hlt : k < wd v
    · have hlt' : (k : Int) < (wd v : Int) := by omega
      obtain ⟨hb0, hb1⟩ := Hdl.out k hlt
      have hck : wr.cell? ⟨g, k, none⟩ = some (.int .i64 (dl k)) := (hB.cell (p := ⟨g, k, none⟩) hg).trans (Hcell.out k hlt)
      by_cases h64 : k < 64
      · have h64' : (k : Int) < 64 := by omega
        have hs := shl_b8 (dl k) (63 - k) hb0 (by omega)
        have ho := u_or (oHi dl k) (b8 (dl k) <<< (63 - k))
        have eHi := Lib.hid (show oHi dl (k + 1) = oHi dl k ||| b8 (dl k) <<< (63 - k) from by simp only [oHi]; exact if_pos (by omega))
        have eLo := Lib.hid (show oLo dl (k + 1) = oLo dl k from by simp only [oLo]; exact if_pos (by omega))
        go_wp2_with fail
        obtain ⟨W, rfl⟩ : ∃ W, W = wr := ⟨_, rfl⟩
        have hz := hB.size
        have Lk := fun x : Later W.heap.size W => (x.cell (p := ⟨g, k, none⟩) (by simp; omega)).trans hck
        have Lqa := fun x : Later W.heap.size W => (x.cell qz).trans qa
        have Lqb := fun x : Later W.heap.size W => (x.cell qz).trans qb
        have Lqc := fun x : Later W.heap.size W => (x.cell qz).trans qc
        refine region_tail 13 W.heap.size (by kernel_rfl) (by kernel_rfl) ?_
        simp only [List.take_succ_cons, List.take_zero, List.drop_succ_cons, List.drop_zero]
        repeat (go_big_quiet_step (fail))
        refine wpQuiet_nil ?_
        intro x
        have hx : Below w.heap.size w x.at := hB.trans (x.below.mono hz)
        obtain ⟨q'a, q'b, q'c, q'd, q'e, q'f, q'z⟩ := cells3 x.below qz qa qb qc qd qe qf
        clear qa qb qc qd qe qf qz
        obtain ⟨p'a, p'b, p'c, p'd, p'e, p'f, p'z⟩ := cells3 x.below pz pa pb pc pd pe pf
        clear pa pb pc pd pe pf pz
        clear Lk Lqa Lqb Lqc hck
        generalize x.at = w3 at *
        clear x hB hz W
        go_wp2_with fail
        refine ⟨⟨k + 1, by omega, by go_num, ?_, ?_, ?_⟩, by simp [intOf]; omega⟩
        · refine ⟨?_, ?_, ?_, ?_, ?_, ?_, ?_⟩ <;> first | (go_simp; done) | (simp only [World.size_setCell]; assumption)
        · show Box _ _ ⟨oHi dl (k + 1), oLo dl (k + 1), v⟩
          rw [eHi.out, eLo.out]
          refine ⟨?_, ?_, ?_, ?_, ?_, ?_, ?_⟩ <;> first | (go_simp; done) | (simp only [World.size_setCell]; assumption)
        · go_grown
      · have h64' : ¬ (k : Int) < 64 := by omega
        have hs := shl_b8 (dl k) (127 - k) hb0 (by omega)
        have ho := u_or (oLo dl k) (b8 (dl k) <<< (127 - k))
        have eHi := Lib.hid (show oHi dl (k + 1) = oHi dl k from by simp only [oHi]; exact if_neg (by omega))
        have eLo := Lib.hid (show oLo dl (k + 1) = oLo dl k ||| b8 (dl k) <<< (127 - k) from by simp only [oLo]; exact if_neg (by omega))
        go_wp2_with fail
        obtain ⟨W, rfl⟩ : ∃ W, W = wr := ⟨_, rfl⟩
        have hz := hB.size
        have Lk := fun x : Later W.heap.size W => (x.cell (p := ⟨g, k, none⟩) (by simp; omega)).trans hck
        have Lqa := fun x : Later W.heap.size W => (x.cell qz).trans qa
        have Lqb := fun x : Later W.heap.size W => (x.cell qz).trans qb
        have Lqc := fun x : Later W.heap.size W => (x.cell qz).trans qc
        refine region_tail 13 W.heap.size (by kernel_rfl) (by kernel_rfl) ?_
        simp only [List.take_succ_cons, List.take_zero, List.drop_succ_cons, List.drop_zero]
        repeat (go_big_quiet_step (fail))
        refine wpQuiet_nil ?_
        intro x
        have hx : Below w.heap.size w x.at := hB.trans (x.below.mono hz)
        obtain ⟨q'a, q'b, q'c, q'd, q'e, q'f, q'z⟩ := cells3 x.below qz qa qb qc qd qe qf
        clear qa qb qc qd qe qf qz
        obtain ⟨p'a, p'b, p'c, p'd, p'e, p'f, p'z⟩ := cells3 x.below pz pa pb pc pd pe pf
        clear pa pb pc pd pe pf pz
        clear Lk Lqa Lqb Lqc hck
        generalize x.at = w3 at *
        clear x hB hz W
        go_wp2_with fail
        refine ⟨⟨k + 1, by omega, by go_num, ?_, ?_, ?_⟩, by simp [intOf]; omega⟩
        · refine ⟨?_, ?_, ?_, ?_, ?_, ?_, ?_⟩ <;> first | (go_simp; done) | (simp only [World.size_setCell]; assumption)
        · show Box _ _ ⟨oHi dl (k + 1), oLo dl (k + 1), v⟩
          rw [eHi.out, eLo.out]
          refine ⟨?_, ?_, ?_, ?_, ?_, ?_, ?_⟩ <;> first | (go_simp; done) | (simp only [World.size_setCell]; assumption)
        · go_grown
    · obtain rfl : k = wd v := by omega
      have hlt' : ¬ (wd v : Int) < (wd v : Int) := by omega
      go_wp2
      refine bodyPost_ret (v := .agg #[.int .u64 (u (oHi dl (wd v))), .int .u64 (u (oLo dl (wd v))), .bool v]) (by simp [*, results, Tryd.results61, go_sem] <;> rfl) rfl ⟨rfl, ?_⟩
      go_grown

end Go.Proofs.YtfebhfghjdedhaaDoor
