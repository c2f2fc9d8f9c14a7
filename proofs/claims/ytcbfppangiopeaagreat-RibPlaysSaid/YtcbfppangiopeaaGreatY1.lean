/-
  What Sane, Contains and Of of the document's answer for layer 2 return. No condition.
-/
import Derived.Test.YtcbfppangiopeaaGreatRows
import Derived.Test.YtcbfppangiopeaaGreatAd
import Derived.ProofKit
import Derived.OpenShut
import Derived.ChangeOld
import Derived.Lib.SmallJoins
import Derived.Test.YtcbfppangiopeaaGreatPf
import Derived.Deep.Strs
import Derived.Test.YtcbfppangiopeaaGreatZl
import Derived.Test.YtcbfppangiopeaaGreatZk
import Derived.Test.YtcbfppangiopeaaGreatZh
import Derived.Test.YtcbfppangiopeaaGreatYb
import Derived.Test.YtcbfppangiopeaaGreatYp
import Derived.Test.YtcbfppangiopeaaGreatZg
import Derived.Test.YtcbfppangiopeaaGreatPh
import Derived.Test.YtcbfppangiopeaaGreatWi
import Derived.Deep.Slices
import Derived.Test.YtcbfppangiopeaaGreatPg
import Derived.Test.YtcbfppangiopeaaGreatRefC
import Derived.Laws.OwnMore
import Derived.Test.YtcbfppangiopeaaGreatLawN
import Derived.Test.YtcbfppangiopeaaGreatMathP
import Derived.Test.YtcbfppangiopeaaGreatPbx
namespace Go.Proofs.YtcbfppangiopeaaGreat
open Go.ChangeShapes Go.WideShapes Go.ChangeAt Go.RowKit Go.Joins
set_option maxRecDepth 100000

theorem own : ownKnob Tryz.prog.godebug = none := by kernel_rfl
theorem laidOut : laidOutB Tryz.prog = true := by kernel_rfl

theorem open_ad {H : Type} {enc : TypeId × Value → H} {W : World} {base b0 : Nat} {spare : Nat → Bool} {held : Bool} {r : Reach} {v : Value} {d : DataW H} {p : List MemPlace}
    (hv : Value.okWide Tryz.prog W r b0 25 v) (h : DataW.Trod enc Tryz.prog W base spare held 25 v d p) :
    ∃ a : Ad, v = .agg #[.int .u64 (u a.hi), .int .u64 (u a.lo), .bool a.v6] := by
  obtain ⟨c0, c1, c2, y0, y1, y2, m, rfl, rfl, rfl, h0, h1, h2⟩ := open_agg3 Tryz.underlying25 (by kernel_rfl) (by kernel_rfl) hv h
  obtain ⟨x0, e0, _, w0⟩ := DataW.trod_int Tryz.underlying23 h0
  obtain ⟨x1, e1, _, w1⟩ := DataW.trod_int Tryz.underlying23 h1
  obtain ⟨x2, e2, _⟩ := DataW.trod_bool Tryz.underlying4 h2
  obtain ⟨lo0, hi0⟩ := bounds_u64 w0
  obtain ⟨lo1, hi1⟩ := bounds_u64 w1
  obtain ⟨a0, rfl⟩ := u_of x0 lo0 (by omega)
  obtain ⟨a1, rfl⟩ := u_of x1 lo1 (by omega)
  simp at e0 e1 e2
  subst e0 e1 e2
  exact ⟨⟨a0, a1, x2⟩, rfl⟩

/-- A list of bytes that comes in: nil; or a row of cells that fit. -/
def IsBytes (w : World) (A : Option Addr) (len cap : Nat) (zs : List Int) : Prop :=
  (A = none ∧ len = 0 ∧ cap = 0 ∧ zs = []) ∨
  ∃ x, A = some x ∧ len ≤ cap ∧ cap ≤ maxLen ∧ zs.length = cap ∧ (∀ i, i < zs.length → w.cell? (x.add i) = some (.int .u8 (zs.getD i 0))) ∧ ∀ n ∈ zs, 0 ≤ n ∧ n < 256
theorem open_bytes {H : Type} {enc : TypeId × Value → H} {W : World} {base b0 : Nat} {spare : Nat → Bool} {held : Bool} {r : Reach} {v : Value} {d : DataW H} {p : List MemPlace}
    (hv : Value.okWide Tryz.prog W r b0 47 v) (h : DataW.Trod enc Tryz.prog W base spare held 47 v d p) (hs : ∀ b, spare b = true) :
    ∃ A len cap zs, v = .slice A len cap ∧ IsBytes W A len cap zs := by
  obtain ⟨A, len, cap, rfl⟩ := okWide_slice Tryz.underlying47 hv
  obtain ⟨fuel, hf⟩ := h
  rcases open_ints Tryz.underlying47 Tryz.underlying5 (by kernel_rfl) hf with ⟨hcs, _⟩ | ⟨x, l, c, zs, hcs, _, hl, hm, hz, _, hcell, hwz⟩
  · simp [Value.cells] at hcs
    obtain ⟨rfl, rfl, rfl⟩ := hcs
    exact ⟨none, 0, 0, [], rfl, .inl ⟨rfl, rfl, rfl, rfl⟩⟩
  · simp [Value.cells] at hcs
    obtain ⟨rfl, rfl, rfl⟩ := hcs
    refine ⟨some x, len, cap, zs, rfl, .inr ⟨x, rfl, hl, hm, by simpa [hs] using hz, hcell, fun n hn => ?_⟩⟩
    obtain ⟨lo, hi⟩ := bounds_u8 (hwz n hn)
    omega

end Go.Proofs.YtcbfppangiopeaaGreat

namespace Go.Proofs.YtcbfppangiopeaaGreat
set_option maxRecDepth 100000
open Go.ChangeShapes Go.WideShapes Go.ChangeAt Go.RowKit Go.Joins Go.Deep

theorem open_pf {H : Type} {enc : TypeId × Value → H} {W : World} {base b0 : Nat} {spare : Nat → Bool} {held : Bool} {r : Reach} {v : Value} {d : DataW H} {p : List MemPlace}
    (hv : Value.okWide Tryz.prog W r b0 27 v) (h : DataW.Trod enc Tryz.prog W base spare held 27 v d p) :
    ∃ a : Pf, v = .agg #[.int .u64 (u a.a.hi), .int .u64 (u a.a.lo), .bool a.a.v6, .int .i64 a.n] ∧ (Lit.int IntKind.i64 a.n).wf = true := by
  obtain ⟨cs, rfl, hsz⟩ := okWide_struct Tryz.underlying27 hv
  obtain ⟨c0, c1, c2, c3, rfl⟩ := array4 (hsz.trans (by kernel_rfl))
  obtain ⟨fuel, hf⟩ := h
  obtain ⟨y0, y1, n, hx, _, h0, h1⟩ := trod_struct2 Tryz.underlying27 hf
  have k0 : Tryz.prog.cellsOf 25 = 3 := by kernel_rfl
  have k1 : Tryz.prog.cellsOf 3 = 1 := by kernel_rfl
  have g0 : DataW.trod enc Tryz.prog W base spare held n 25 [c0, c1, c2] = some y0 := by simpa [Value.cells, k0] using h0
  have g1 : DataW.trod enc Tryz.prog W base spare held n 3 [c3] = some y1 := by simpa [Value.cells, k1] using h1
  obtain ⟨z0, z1, z2, m, hz, _, i0, i1, i2⟩ := trod_struct3 Tryz.underlying25 g0
  have k2 : Tryz.prog.cellsOf 23 = 1 := by kernel_rfl
  have k3 : Tryz.prog.cellsOf 4 = 1 := by kernel_rfl
  have j0 : DataW.trod enc Tryz.prog W base spare held m 23 [c0] = some z0 := by simpa [k2] using i0
  have j1 : DataW.trod enc Tryz.prog W base spare held m 23 [c1] = some z1 := by simpa [k2] using i1
  have j2 : DataW.trod enc Tryz.prog W base spare held m 4 [c2] = some z2 := by simpa [k3] using i2
  obtain ⟨x0, e0, _, w0⟩ := DataW.trod_int Tryz.underlying23 j0
  obtain ⟨x1, e1, _, w1⟩ := DataW.trod_int Tryz.underlying23 j1
  obtain ⟨x2, e2, _⟩ := DataW.trod_bool Tryz.underlying4 j2
  obtain ⟨x3, e3, _, w3⟩ := DataW.trod_int Tryz.underlying3 g1
  obtain ⟨lo0, hi0⟩ := bounds_u64 w0
  obtain ⟨lo1, hi1⟩ := bounds_u64 w1
  obtain ⟨a0, rfl⟩ := u_of x0 lo0 (by omega)
  obtain ⟨a1, rfl⟩ := u_of x1 lo1 (by omega)
  simp at e0 e1 e2 e3
  subst e0 e1 e2 e3
  exact ⟨⟨⟨a0, a1, x2⟩, x3⟩, rfl, w3⟩

end Go.Proofs.YtcbfppangiopeaaGreat

namespace Go.Proofs.YtcbfppangiopeaaGreat
open Go.RowKit
set_option maxRecDepth 100000

theorem long_sees (w : World) (t : Nat) (vA vF : Value) (T : Tr) (h : TrA w t vA vF T) (hW : Wf T) (p : Pf) (a : Ad) :
    Sees T t vA vF p 70 #[.pointer (some ⟨w.heap.size, 0, none⟩), .pointer (some ⟨w.heap.size + 1, 0, none⟩), .pointer (some ⟨w.heap.size + 1 + 1 + 1, 0, none⟩), .pointer (some ⟨w.heap.size + 1 + 1 + 1 + 1, 0, none⟩)] (LongI w t T p a w.heap.size) where
  see k i S w' hI hT _ hi := long1_any w w' t vA vF T hT hW p a w.heap.size k i S hI h.lt hi
  keep k S w1 w2 hI hb := by
    obtain ⟨rfl, hB, hTb, hA, h1, h2, h3⟩ := hI
    exact ⟨rfl, hB.trans (hb.mono (by have := lt_of_block h1; omega)), (hb.block _ (lt_of_block hTb)).trans hTb, hA.keep hb, (hb.block _ (lt_of_block h1)).trans h1, (hb.block _ (lt_of_block h2)).trans h2, (hb.block _ (lt_of_block h3)).trans h3⟩
  lt k S w1 hI b hb := by
    obtain ⟨rfl, hB, hTb, hA, h1, h2, h3⟩ := hI
    have z1 := lt_of_block h1
    have z2 := lt_of_block h2
    refine ⟨by rcases hb with rfl | rfl <;> assumption, fun hf => ?_⟩
    have := h.lt b hf
    rcases hb with rfl | rfl <;> omega
def LongPost (w : World) (T : Tr) (a : Ad) (e : Ending) (w' : World) : Prop :=
  ∃ m, WayEnds T (pof a (wid a.v6)) m ∧ e = .returned (.tuple #[.agg (pr5 ((longK T (pof a (wid a.v6)).a a (m + 1)).getD nilPr)).toArray, .bool (longK T (pof a (wid a.v6)).a a (m + 1)).isSome]) ∧ Below w.heap.size w w'

set_option maxHeartbeats 2000000 in
theorem longest_any (w : World) (t : Nat) (vA vF : Value) (T : Tr) (h : TrA w t vA vF T) (hW : Wf T) (a : Ad) :
    Calls Tryz.prog 42 #[.pointer (some ⟨t, 0, none⟩), .agg #[.int .u64 (u a.hi), .int .u64 (u a.lo), .bool a.v6]] w (LongPost w T a) := by
  have HT := Lib.hid h
  have HW := Lib.hid hW
  clear h hW
  go_enter Tryz.func42, Tryz.ntmps42
  go_wp2_with fail
  have hLI : LongI w t T (pof a (wid a.v6)) a w.heap.size 0 (fun x => x = w.heap.size + 1 + 1 + 1 ∨ x = w.heap.size + 1 + 1 + 1 + 1) (((((w.alloc (.cells #[.pointer (some ⟨t, 0, none⟩)] 56)).alloc (.cells #[.int .u64 (u a.hi), .int .u64 (u a.lo), .bool a.v6] 25)).alloc (.cells #[.int .u64 0, .int .u64 0, .bool false, .int .i64 0, .int .i64 0] 90)).alloc (.cells #[.int .u64 0, .int .u64 0, .bool false, .int .i64 0, .int .i64 0] 90)).alloc (.cells #[.bool false] 4)) := by
    refine ⟨rfl, by go_grown, ?_, ⟨by go_simp <;> rfl, by go_simp <;> rfl, by go_simp <;> rfl, by go_size⟩, ?_, ?_, ?_⟩
    · unfold TBox
      repeat (first | (refine hp_new ?_; (simp; done)) | (refine hp_old ?_ ?_; · (first | (simp; done) | (simp; omega))))
    · show _ = some (Obj.cells #[.int .u64 0, .int .u64 0, .bool false, .int .i64 0, .int .i64 0] 90 (0, 0))
      repeat (first | (refine hp_new ?_; (simp; done)) | (refine hp_old ?_ ?_; · (first | (simp; done) | (simp; omega))))
    · show _ = some (Obj.cells #[.bool false] 4 (0, 0))
      repeat (first | (refine hp_new ?_; (simp; done)) | (refine hp_old ?_ ?_; · (first | (simp; done) | (simp; omega))))
    · repeat (first | (refine hp_new ?_; (simp; done)) | (refine hp_old ?_ ?_; · (first | (simp; done) | (simp; omega))))
  have hTW := HT.out.keep (w' := ((((w.alloc (.cells #[.pointer (some ⟨t, 0, none⟩)] 56)).alloc (.cells #[.int .u64 (u a.hi), .int .u64 (u a.lo), .bool a.v6] 25)).alloc (.cells #[.int .u64 0, .int .u64 0, .bool false, .int .i64 0, .int .i64 0] 90)).alloc (.cells #[.int .u64 0, .int .u64 0, .bool false, .int .i64 0, .int .i64 0] 90)).alloc (.cells #[.bool false] 4)) (by go_grown)
  generalize hWW : World.alloc (World.alloc (World.alloc _ _) _) _ = W at hLI hTW ⊢
  obtain ⟨-, hB, hTb, hA, -, -, -⟩ := id hLI
  have HLI := Lib.hid hLI
  have HTW := Lib.hid hTW
  have cT := cell_of_one hTb
  have zT := lt_of_block hTb
  obtain ⟨pa, pb, pc, pz⟩ := id hA
  have z0 := hB.size
  clear hWW hTb hA hLI hTW
  have L2 := fun x : Later W.heap.size W => (x.cell zT).trans cT
  have La := fun x : Later W.heap.size W => (x.cell pz).trans pa
  have Lb := fun x : Later W.heap.size W => (x.cell pz).trans pb
  have Lc := fun x : Later W.heap.size W => (x.cell pz).trans pc
  refine region_tail 7 W.heap.size (by kernel_rfl) (by kernel_rfl) ?_
  simp only [List.take_succ_cons, List.take_zero, List.drop_succ_cons, List.drop_zero]
  repeat (go_big_quiet_step (first | (go_at_call 39; exact later_same (width_any _ _)) | (go_at_call 12; exact later_of (Nat.le_refl _) (pof_any _ _ _))))
  refine wpQuiet_nil ?_
  intro x
  have hx := x.below
  generalize x.at = w5 at hx ⊢
  clear x L2 La Lb Lc cT pa pb pc
  go_wp2_with fail
  refine (along_any _ t vA vF T (HTW.out.keep hx) HW.out (pof a (wid a.v6)) (psane_pof _ _) _ (enters_of Tryz.func70 (by kernel_rfl) rfl) _ _ (long_sees w t vA vF T HT.out HW.out (pof a (wid a.v6)) a) _ ((long_sees w t vA vF T HT.out HW.out (pof a (wid a.v6)) a).keep _ _ _ _ HLI.out hx)).mono ?_
  rintro e w1 ⟨rfl, S1, m, ⟨-, hb1, -, -, h1, h2, h3⟩, -, -, hm, hm1, hm2⟩
  have HM := Lib.hid (And.intro hm (And.intro hm1 hm2))
  obtain ⟨o, ho⟩ : ∃ o, longK T (pof a (wid a.v6)).a a (m + 1) = o := ⟨_, rfl⟩
  rw [ho] at h1 h2
  have HOo := Lib.hid ho
  clear hm hm1 hm2 ho
  obtain ⟨y, hy⟩ : ∃ y, o.getD nilPr = y := ⟨_, rfl⟩
  rw [hy] at h1
  have HY := Lib.hid hy
  clear hy
  have m0 : w1.cell? ⟨w.heap.size + 1 + 1 + 1, 0, none⟩ = some (.int .u64 (u y.p.a.hi)) := by rw [cell_row h1]; rfl
  have m1 : w1.cell? ⟨w.heap.size + 1 + 1 + 1, 1, none⟩ = some (.int .u64 (u y.p.a.lo)) := by rw [cell_row h1]; rfl
  have m2 : w1.cell? ⟨w.heap.size + 1 + 1 + 1, 2, none⟩ = some (.bool y.p.a.v6) := by rw [cell_row h1]; rfl
  have m3 : w1.cell? ⟨w.heap.size + 1 + 1 + 1, 3, none⟩ = some (.int .i64 y.p.n) := by rw [cell_row h1]; rfl
  have m4 : w1.cell? ⟨w.heap.size + 1 + 1 + 1, 4, none⟩ = some (.int .i64 y.v) := by rw [cell_row h1]; rfl
  have r0 : w1.cell? ⟨w.heap.size + 1 + 1, 0, none⟩ = some (.int .u64 0) := by rw [cell_row h3]; rfl
  have r1 : w1.cell? ⟨w.heap.size + 1 + 1, 1, none⟩ = some (.int .u64 0) := by rw [cell_row h3]; rfl
  have r2 : w1.cell? ⟨w.heap.size + 1 + 1, 2, none⟩ = some (.bool false) := by rw [cell_row h3]; rfl
  have r3 : w1.cell? ⟨w.heap.size + 1 + 1, 3, none⟩ = some (.int .i64 0) := by rw [cell_row h3]; rfl
  have r4 : w1.cell? ⟨w.heap.size + 1 + 1, 4, none⟩ = some (.int .i64 0) := by rw [cell_row h3]; rfl
  have q0 := frozen_of_row w1 (w.heap.size + 1 + 1) 0 _ _ h3
  have q1 := frozen_of_row w1 (w.heap.size + 1 + 1) 1 _ _ h3
  have q2 := frozen_of_row w1 (w.heap.size + 1 + 1) 2 _ _ h3
  have q3 := frozen_of_row w1 (w.heap.size + 1 + 1) 3 _ _ h3
  have q4 := frozen_of_row w1 (w.heap.size + 1 + 1) 4 _ _ h3
  have m5 := cell_of_one h2
  have z9 := lt_of_block h2
  clear h1 h2 h3 hx
  go_wp2_with fail
  go_region
  all_goals
    go_wp2
    refine bodyPost_ret (v := .tuple #[.agg #[.int .u64 (u y.p.a.hi), .int .u64 (u y.p.a.lo), .bool y.p.a.v6, .int .i64 y.p.n, .int .i64 y.v], .bool o.isSome]) (by simp [*, results, Tryz.results42, go_sem] <;> rfl) rfl ⟨m, HM.out, ?_, ?_⟩
    · rw [HOo.out, HY.out]
      rfl
    · refine hb1.trans ?_
      exact ((((((Below.refl _ _).setCell (by simp; omega) _).setCell (by simp; omega) _).setCell (by simp; omega) _).setCell (by simp; omega) _).setCell (by simp; omega) _).drew

end Go.Proofs.YtcbfppangiopeaaGreat

namespace Go.Proofs.YtcbfppangiopeaaGreat
open Go.RowKit
set_option maxRecDepth 100000

def newT : Tr := ⟨[nd0, nd0], [], 0⟩
def NewPost (w : World) (e : Ending) (w' : World) : Prop := ∃ t S, e = .returned (.pointer (some ⟨t, 0, none⟩)) ∧ TrS w' t S newT ∧ Below w.heap.size w w' ∧ ∀ b, S b → w.heap.size ≤ b
set_option maxHeartbeats 400000 in
theorem new_any (w : World) : Calls Tryz.prog 15 #[] w (NewPost w) := by
  obtain ⟨i0, hi0, hz0, hz1, hz2⟩ := info_parts info_nd
  go_enter Tryz.func15, Tryz.ntmps15
  go_wp2_with (
    at_make
    refine wpList_make_full _ rfl _ _ _ rfl 0 120 i0 _ 4 Tryz.underlying97 hi0 hz0 hz1 .i64 .i64 _ _ 2 (by rfl) (by rfl) (by rfl) (by rfl) (by rw [hz2]; omega) (by simp [maxLen]) (Nat.zero_le _) ?_
    intro w3 hown1 hg1
    have HO := Lib.hid hown1
    have HG := Lib.hid hg1
    clear hown1 hg1
    )
  go_ret
  have hb3 := (Below.refl _ _).grown HG.out (Nat.le_refl _) (by simp)
  have z3 := hb3.size
  refine ⟨w3.heap.size, foot w3.heap.size (.slice (some ⟨w.heap.size, 0, none⟩) 2 2) (.slice none 0 0), rfl, ⟨_, _, rfl, hp_new rfl, ?_, World.ownsRow_nil _ _ _ _⟩, hb3.trans (by go_grown), ?_⟩
  · have e : (madeCells (Value.agg #[.int .i64 0, .int .i64 0, .bool false, .int .i64 0]).cells (2 * 4)).toList = ndv newT.ar := by
      simp [madeCells, Value.cells, ndv, newT, nd4, nd0, List.range_succ]
    have := HO.out.alloc (.cells #[.slice (some ⟨w.heap.size, 0, none⟩) 2 2, .slice none 0 0, .int .i64 0] 99)
    rw [e] at this
    exact this
  · rintro b (rfl | hb | hb)
    · omega
    · simp [Value.ownBlock] at hb
      omega
    · simp [Value.ownBlock] at hb

def UnderPost (w : World) (T : Tr) (p : Pf) (e : Ending) (w' : World) : Prop := match atT T p with
  | none => ListPost w [] e w'
  | some i => ListPost w (belowF T (wd p.a.v6 - p.n.toNat + 1) p i) e w'
set_option maxHeartbeats 2000000 in
theorem under_any (w : World) (t : Nat) (vA vF : Value) (T : Tr) (h : TrA w t vA vF T) (hW : Wf T) (hD : Deep T) (p : Pf) (hl : ∀ i, atT T p = some i → (belowF T (wd p.a.v6 - p.n.toNat + 1) p i).length ≤ 1000000000) :
    Calls Tryz.prog 44 #[.pointer (some ⟨t, 0, none⟩), .agg #[.int .u64 (u p.a.hi), .int .u64 (u p.a.lo), .bool p.a.v6, .int .i64 p.n]] w (UnderPost w T p) := by
  have HT := Lib.hid h
  have HW := Lib.hid hW
  have HD := Lib.hid hD
  have HLL := Lib.hid hl
  clear h hW hD hl
  cases ha : atT T p with
  | none =>
    have HA := Lib.hid ha
    have HU : Hid (UnderPost w T p = ListPost w []) := by unfold UnderPost; rw [ha]; exact rfl
    clear ha
    go_enter Tryz.func44, Tryz.ntmps44
    go_wp2_with fail
    refine (at_any _ t vA vF T (HT.out.keep (by go_grown)) HW.out p).mono ?_
    rw [HA.out]
    rintro e w1 ⟨rfl, hw1⟩
    have b1 : Below w.heap.size w w1 := below_of (by go_grown) hw1
    go_wp2
    go_ret
    rw [HU.out]
    exact ⟨_, rfl, World.ownsRow_nil _ _ _ _, b1⟩
  | some i =>
    have hp : psane p = true := by
      unfold atT at ha
      split at ha
      · assumption
      · cases ha
    have hi : nodeAt T.ar p.a p.n.toNat = some i := by
      unfold atT at ha
      rw [if_pos hp] at ha
      exact ha
    have hlen := HLL.out i ha
    have HA := Lib.hid ha
    have HI := Lib.hid hi
    have HP := Lib.hid hp
    obtain ⟨R, hR⟩ : ∃ R, belowF T (wd p.a.v6 - p.n.toNat + 1) p i = R := ⟨_, rfl⟩
    have HU : Hid (UnderPost w T p = ListPost w R) := by unfold UnderPost; rw [ha, ← hR]; exact rfl
    have HR := Lib.hid hR
    have HLN := Lib.hid hlen
    have hlt := HT.out.lt
    have HLT := Lib.hid hlt
    clear ha hi hp hlen hR HLL hlt
    go_enter Tryz.func44, Tryz.ntmps44
    go_wp2_with fail
    refine (at_any _ t vA vF T (HT.out.keep (by go_grown)) HW.out p).mono ?_
    rw [HA.out]
    rintro e w1 ⟨rfl, hw1⟩
    have b1 : Below w.heap.size w w1 := below_of (by go_grown) hw1
    have z1 := hw1.size
    have hTb : TBox w1 w.heap.size t := (hw1.block _ (by go_size)).trans (by repeat (first | (refine hp_new ?_; (simp; done)) | (refine hp_old ?_ ?_; · (first | (simp; done) | (simp; omega)))))
    have hP1 : PBox w1 (w.heap.size + 1) p := PBox.keep (by exact ⟨by go_simp <;> rfl, by go_simp <;> rfl, by go_simp <;> rfl, by go_simp <;> rfl, by go_simp <;> rfl, by go_simp <;> rfl, by go_simp <;> rfl, by go_simp <;> rfl, by go_size⟩) hw1
    have HTb := Lib.hid hTb
    have HP1 := Lib.hid hP1
    have cT := cell_of_one hTb
    obtain ⟨pa, pb, pc, pd, -⟩ := id hP1
    have y1 : w.heap.size + 1 < w1.heap.size := hP1.2.2.2.2.2.2.2.2
    have y2 : ¬ w.heap.size = w1.heap.size := by omega
    have y3 : ¬ w.heap.size + 1 = w1.heap.size := by omega
    have y4 : w.heap.size < w1.heap.size := by omega
    clear hTb hP1 hw1 z1
    go_wp2_with fail
    have b2 : Below w1.heap.size w1 (w1.alloc (.cells #[.slice none 0 0] 95)) := by go_grown
    refine (below_any w t w.heap.size w1.heap.size vA vF T HW.out HD.out HLT.out (wd p.a.v6 - p.n.toNat + 1) _ p i [] (fun x => x = w1.heap.size ∨ (Value.slice none 0 0).ownBlock = some x) HP.out HI.out (by omega) (by simpa using HLN.out) ⟨.slice none 0 0, rfl, by omega, b1.trans (b2.mono (by omega)), (b2.block _ y4).trans HTb.out, hp_new rfl, World.ownsRow_nil _ _ _ _⟩ (HT.out.keep (b1.trans (b2.mono (by omega))))).mono ?_
    rintro e w5 ⟨rfl, S5, ⟨v, -, -, hB5, -, h1, h2⟩, -, -⟩
    have c1 := cell_of_one h1
    have H2 := Lib.hid h2
    rw [List.nil_append, HR.out] at H2
    clear h1 h2 pa pb pc pd cT
    obtain ⟨A1, cc, rfl, -⟩ := own_val H2.out
    go_wp2
    go_ret
    rw [HU.out]
    exact ⟨_, rfl, own_base H2.out (by omega), hB5⟩

end Go.Proofs.YtcbfppangiopeaaGreat

namespace Go.Proofs.YtcbfppangiopeaaGreat
open Go.RowKit
set_option maxRecDepth 100000

theorem above_sees (w : World) (t : Nat) (vA vF : Value) (T : Tr) (h : TrA w t vA vF T) (hW : Wf T) (p : Pf) (hn : 0 ≤ p.n) (hn' : p.n ≤ 128) :
    Sees T t vA vF p 79 #[.pointer (some ⟨w.heap.size, 0, none⟩), .pointer (some ⟨w.heap.size + 1 + 1, 0, none⟩), .pointer (some ⟨w.heap.size + 1, 0, none⟩)] (AboveI w t T p w.heap.size) where
  see k i S w' hI hT hk hi := above1_any w w' t vA vF T hT hW p hn hn' w.heap.size k i S hI h.lt hk hi
  keep k S w1 w2 hI hb := by
    obtain ⟨v, rfl, hB, hTb, hP, h1, h2⟩ := hI
    exact ⟨v, rfl, hB.trans (hb.mono (by have := lt_of_block h1; omega)), (hb.block _ (lt_of_block hTb)).trans hTb, hP.keep hb, (hb.block _ (lt_of_block h1)).trans h1, own_block h2 (fun b _ hl => hb.block b hl)⟩
  lt k S w1 hI b hb := by
    obtain ⟨v, rfl, hB, hTb, hP, h1, h2⟩ := hI
    have z1 := lt_of_block h1
    have hge := own_ge h2
    refine ⟨?_, fun hf => ?_⟩
    · rcases hb with rfl | hb
      · exact z1
      · exact (h2.lt b hb).2
    · have := h.lt b hf
      rcases hb with rfl | hb
      · omega
      · have := hge b hb
        omega

set_option maxHeartbeats 1000000 in
theorem above_any (w : World) (t : Nat) (vA vF : Value) (T : Tr) (h : TrA w t vA vF T) (hW : Wf T) (p : Pf) (hp : psane p = true) :
    Calls Tryz.prog 52 #[.pointer (some ⟨t, 0, none⟩), .agg #[.int .u64 (u p.a.hi), .int .u64 (u p.a.lo), .bool p.a.v6, .int .i64 p.n]] w (AbovePost w T p) := by
  have HT := Lib.hid h
  have HW := Lib.hid hW
  have HP := Lib.hid hp
  obtain ⟨n0, n1⟩ := psane_bd hp
  have n2 := (wid_bd p.a.v6).2
  clear h hW hp
  go_enter Tryz.func52, Tryz.ntmps52
  go_wp2_with fail
  refine (along_any _ t vA vF T (HT.out.keep (by go_grown)) HW.out p HP.out _ (enters_of Tryz.func79 (by kernel_rfl) rfl) _ _ (above_sees w t vA vF T HT.out HW.out p n0 (by omega)) _ ⟨.slice none 0 0, rfl, by go_grown, ?_, ?_, ?_, World.ownsRow_nil _ _ _ _⟩).mono ?_
  · unfold TBox
    repeat (first | (refine hp_new ?_; (simp; done)) | (refine hp_old ?_ ?_; · (first | (simp; done) | (simp; omega))))
  · exact ⟨by go_simp <;> rfl, by go_simp <;> rfl, by go_simp <;> rfl, by go_simp <;> rfl, by go_simp <;> rfl, by go_simp <;> rfl, by go_simp <;> rfl, by go_simp <;> rfl, by go_size⟩
  · repeat (first | (refine hp_new ?_; (simp; done)) | (refine hp_old ?_ ?_; · (first | (simp; done) | (simp; omega))))
  rintro e w1 ⟨rfl, S1, m, ⟨v, -, hb1, -, -, h1, h2⟩, -, -, hm, hm1, hm2⟩
  have c1 := cell_of_one h1
  have H2 := Lib.hid h2
  have HM := Lib.hid (And.intro hm (And.intro hm1 hm2))
  clear h1 h2 hm hm1 hm2
  obtain ⟨A1, cc, rfl, -⟩ := own_val H2.out
  go_wp2
  go_ret
  exact ⟨m, HM.out, _, rfl, own_base H2.out (by omega), hb1⟩
set_option maxHeartbeats 1000000 in
theorem above_no (w : World) (t : Nat) (vA vF : Value) (T : Tr) (h : TrA w t vA vF T) (hW : Wf T) (p : Pf) (hp : psane p = false) :
    Calls Tryz.prog 52 #[.pointer (some ⟨t, 0, none⟩), .agg #[.int .u64 (u p.a.hi), .int .u64 (u p.a.lo), .bool p.a.v6, .int .i64 p.n]] w (ListPost w []) := by
  have HT := Lib.hid h
  have HW := Lib.hid hW
  have HP := Lib.hid hp
  clear h hW hp
  go_enter Tryz.func52, Tryz.ntmps52
  go_wp2_with fail
  refine (along_no _ t vA vF T (HT.out.keep (by go_grown)) HW.out.1 p HP.out _).mono ?_
  rintro e w1 ⟨rfl, hw1⟩
  have b1 : Below w.heap.size w w1 := below_of (by go_grown) hw1
  have c1 : w1.cell? ⟨w.heap.size + 1 + 1, 0, none⟩ = some (.slice none 0 0) := (hw1.cell (by go_size)).trans (by go_simp <;> rfl)
  clear hw1
  go_wp2
  go_ret
  exact ⟨_, rfl, World.ownsRow_nil _ _ _ _, b1⟩

end Go.Proofs.YtcbfppangiopeaaGreat

namespace Go.Proofs.YtcbfppangiopeaaGreat
open Go.RowKit

theorem isZ_iff (x : Nd) : isZ x = true ↔ x = nd0 := by
  obtain ⟨a, b, c, d⟩ := x
  simp only [isZ, ndB, nd0, Bool.and_eq_true, beq_iff_eq, Nd.mk.injEq]
  constructor
  · rintro ⟨⟨h1, h2⟩, h3, h4⟩
    exact ⟨by omega, by omega, h3, h4⟩
  · rintro ⟨rfl, rfl, rfl, rfl⟩
    simp
section
variable {T : Tr} {ns : List Pf}
theorem drop_getD (h : Base T ns) {a : Ad} {k i : Nat} (hk : k ≤ wd a.v6) (hi : nodeAt T.ar a k = some i) (j : Nat) (d : Int) (x : Nat) : (dropT T i j d).ar.getD x nd0 = if i = x then setKid (T.ar.getD i nd0) d 0 else T.ar.getD x nd0 := by
  have hl := h.lt hk hi
  show (T.ar.set i (setKid (T.ar.getD i nd0) d 0)).getD x nd0 = _
  rw [getD_set]
  by_cases hij : i = x
  · subst hij
    rw [if_pos ⟨rfl, hl⟩, if_pos rfl]
  · rw [if_neg (fun e => hij e.1), if_neg hij]
theorem drop_node (h : Base T ns) {a : Ad} {k i j : Nat} (hk : k + 1 ≤ wd a.v6) (hi : nodeAt T.ar a k = some i) (hj : nodeAt T.ar a (k + 1) = some j) (hz : T.ar.getD j nd0 = nd0) (b : Ad) : ∀ m, m ≤ wd b.v6 → nodeAt (dropT T i j (bitv a k)).ar b m = if pof b m = pof a ((k + 1 : Nat) : Int) then none else nodeAt T.ar b m := by
  intro m
  induction m with
  | zero =>
    intro hm
    rw [if_neg (fun e => by have := (pof_inj (a := b) (k := 0) (Nat.zero_le _) hk e).1; omega)]
    rfl
  | succ m ih =>
    intro hm
    have ih := ih (by omega)
    show (nodeAt (dropT T i j (bitv a k)).ar b m).bind _ = _
    rw [ih]
    by_cases e1 : pof b m = pof a ((k + 1 : Nat) : Int)
    · rw [if_pos e1, if_neg (fun e => by have := (pof_inj hm hk e).1; have := (pof_inj (a := b) (k := m) (by omega) hk e1).1; omega)]
      have hf : nodeAt T.ar b m = some j := by
        obtain ⟨h1, h2⟩ := pof_inj (a := b) (k := m) (by omega) hk e1
        subst h1
        rw [nodeAt_pof T.ar (a := b) (b := a) (by omega) hk e1]
        exact hj
      show none = (nodeAt T.ar b m).bind _
      rw [hf]
      simp only [Option.bind_some, hz, kid_nd0, if_true]
    · rw [if_neg e1]
      show _ = if _ then _ else (nodeAt T.ar b m).bind _
      cases hb : nodeAt T.ar b m with
      | none => simp
      | some x =>
        simp only [Option.bind_some]
        rw [drop_getD h (by omega) hi]
        by_cases hij : i = x
        · subst hij
          have hp := h.inj (a := b) (b := a) (k := m) (m := k) (by omega) (by omega) hb hi
          obtain ⟨h1, h2⟩ := pof_inj (a := b) (b := a) (k := m) (m := k) (by omega) (by omega) hp
          subst h1
          rw [if_pos rfl, kid_setKid]
          by_cases hd : bitv b m = bitv a m
          · rw [if_pos hd, if_pos ((pof_succ (a := b) (b := a) hm h2).2 ⟨hp, hd⟩), if_pos rfl]
          · rw [if_neg hd, if_neg (fun e => hd ((pof_succ (a := b) (b := a) hm h2).1 e).2)]
        · have hne : ¬ pof b ((m + 1 : Nat) : Int) = pof a ((k + 1 : Nat) : Int) := by
            intro e
            obtain ⟨h1, h2⟩ := pof_inj hm hk e
            obtain rfl : m = k := by omega
            have := (pof_succ (a := b) (b := a) hm h2).1 e
            rw [nodeAt_pof T.ar (a := b) (b := a) (by omega) (by omega) this.1, hi] at hb
            exact hij (Option.some.inj hb)
          rw [if_neg hij, if_neg hne]
theorem drop_nodeT (h : Base T ns) {a : Ad} {k i j : Nat} (hk : k + 1 ≤ wd a.v6) (hi : nodeAt T.ar a k = some i) (hj : nodeAt T.ar a (k + 1) = some j) (hz : T.ar.getD j nd0 = nd0) {q : Pf} (hq : psane q = true) :
    nodeT (dropT T i j (bitv a k)) q = if q = pof a ((k + 1 : Nat) : Int) then none else nodeT T q := by
  obtain ⟨m, hm, e1, e2⟩ := nodeT_eq hq
  rw [e1, nodeT_pof _ q.a m hm, nodeT_pof _ q.a m hm, drop_node h hk hi hj hz q.a m hm]
theorem drop_base (h : Base T ns) {a : Ad} {k i j : Nat} (hk : k + 1 ≤ wd a.v6) (hi : nodeAt T.ar a k = some i) (hj : nodeAt T.ar a (k + 1) = some j) (hz : T.ar.getD j nd0 = nd0) :
    Base (dropT T i j (bitv a k)) (ns.erase (pof a ((k + 1 : Nat) : Int))) ∧ (∀ q, psane q = true → vf (dropT T i j (bitv a k)) q = vf T q) := by
  have hin : pof a ((k + 1 : Nat) : Int) ∈ ns := h.mem hk hj
  have hgd := fun x => drop_getD h (show k ≤ wd a.v6 by omega) hi j (bitv a k) x
  have hij : i ≠ j := by
    rintro rfl
    have := (pof_inj (a := a) (b := a) (k := k) (m := k + 1) (by omega) hk (h.inj (by omega) hk hi hj)).1
    omega
  have hmem : ∀ q, q ∈ ns.erase (pof a ((k + 1 : Nat) : Int)) ↔ q ≠ pof a ((k + 1 : Nat) : Int) ∧ q ∈ ns := fun q => h.nd.mem_erase_iff
  have hpm : (ns.erase (pof a ((k + 1 : Nat) : Int))).map (fun q => (nodeT (dropT T i j (bitv a k)) q).getD 0) = (ns.erase (pof a ((k + 1 : Nat) : Int))).map (fun q => (nodeT T q).getD 0) := by
    apply List.map_congr_left
    intro q hq
    obtain ⟨h1, h2⟩ := (hmem q).1 hq
    rw [drop_nodeT h hk hi hj hz ((h.key q).1 h2).1, if_neg h1]
  refine ⟨⟨?_, h.nd.erase _, ?_, ?_, ?_, ?_, ?_⟩, ?_⟩
  · simpa [dropT] using h.len2
  · intro q
    rw [hmem, h.key]
    constructor
    · rintro ⟨h1, h2, h3⟩
      exact ⟨h2, by rw [drop_nodeT h hk hi hj hz h2, if_neg h1]; exact h3⟩
    · rintro ⟨h1, h2⟩
      rw [drop_nodeT h hk hi hj hz h1] at h2
      by_cases e : q = pof a ((k + 1 : Nat) : Int)
      · rw [if_pos e] at h2
        cases h2
      · rw [if_neg e] at h2
        exact ⟨e, h1, h2⟩
  · rw [hpm]
    have hp := h.perm
    have hp2 := (List.perm_cons_erase hin).map (fun q => (nodeT T q).getD 0)
    rw [List.map_cons, nodeT_pof T a (k + 1) hk, hj] at hp2
    have e1 : (dropT T i j (bitv a k)).ar.length = T.ar.length := by simp [dropT]
    rw [e1]
    refine List.Perm.trans ?_ hp
    refine List.Perm.trans ?_ (hp2.symm.append_right T.fr)
    show ((ns.erase (pof a ((k + 1 : Nat) : Int))).map (fun q => (nodeT T q).getD 0) ++ (T.fr ++ [j])).Perm _
    rw [← List.append_assoc]
    exact List.perm_append_comm (l₂ := [j])
  · intro x hx
    rw [hgd]
    have hx' : x ∈ T.fr ∨ x = j := by simpa [dropT] using hx
    rcases hx' with hx | rfl
    · rw [if_neg (show ¬ i = x from fun e => h.notfree (show k ≤ wd a.v6 by omega) hi (e ▸ hx)), h.zero x hx]
    · rw [if_neg hij, hz]
  · intro x hx
    rw [hgd] at hx ⊢
    split at hx
    · rename_i e
      rw [if_pos e]
      rw [(setKid_tv _ _ _).1] at hx
      rw [(setKid_tv _ _ _).2]
      exact h.zv _ hx
    · rename_i e
      rw [if_neg e]
      exact h.zv _ hx
  · intro b x hx
    rw [drop_node h hk hi hj hz b _ (Nat.le_refl _)] at hx
    rw [hgd]
    by_cases e : pof b (wd b.v6) = pof a ((k + 1 : Nat) : Int)
    · rw [if_pos e] at hx
      cases hx
    · rw [if_neg e] at hx
      have hix : i ≠ x := by
        rintro rfl
        have hp := h.inj (a := b) (b := a) (k := wd b.v6) (m := k) (Nat.le_refl _) (by omega) hx hi
        obtain ⟨h1, h2⟩ := pof_inj (a := b) (b := a) (k := wd b.v6) (m := k) (Nat.le_refl _) (by omega) hp
        rw [h2] at h1
        omega
      rw [if_neg hix]
      exact h.deep b x hx
  · intro q hq
    unfold vf
    rw [drop_nodeT h hk hi hj hz hq]
    by_cases e : q = pof a ((k + 1 : Nat) : Int)
    · subst e
      rw [if_pos rfl, nodeT_pof T a (k + 1) hk, hj]
      simp only [Option.bind_some, Option.bind_none, hz]
      rfl
    · rw [if_neg e]
      congr 1
      funext x
      rw [hgd]
      by_cases e : i = x
      · subst e
        rw [if_pos rfl, (setKid_tv _ _ _).1, (setKid_tv _ _ _).2]
      · rw [if_neg e]
end

theorem nodup_le : ∀ {l m : List Pf}, l.Nodup → (∀ x ∈ l, x ∈ m) → l.length ≤ m.length := by
  intro l
  induction l with
  | nil => intro m _ _; exact Nat.zero_le _
  | cons x l ih =>
    intro m hn hs
    obtain ⟨h1, h2⟩ := List.nodup_cons.1 hn
    have hx := hs x (List.mem_cons_self ..)
    have := ih (m := m.erase x) h2 (fun y hy => (List.mem_erase_of_ne (show y ≠ x from fun e => h1 (e ▸ hy))).2 (hs y (List.mem_cons_of_mem _ hy)))
    rw [List.length_erase_of_mem hx] at this
    have : 0 < m.length := List.length_pos_of_mem hx
    simp only [List.length_cons]
    omega
/-- Nodes on a way are made. -/
theorem grow_base (a : Ad) : ∀ (f : Nat) (T : Tr) (ns : List Pf) (i k : Nat), Base T ns → k + f ≤ wd a.v6 → nodeAt T.ar a k = some i → (f = 0 ∨ nodeAt T.ar a (k + 1) = none) →
    ∃ ns', Base (growF a f T i k).1 ns' ∧ (∀ q, psane q = true → vf (growF a f T i k).1 q = vf T q) ∧ nodeAt (growF a f T i k).1.ar a (k + f) = some (growF a f T i k).2 ∧ max (growF a f T i k).1.ar.length ns'.length = max T.ar.length ns'.length ∧
      (∀ q, q ∈ ns' ↔ q ∈ ns ∨ ∃ m : Nat, k < m ∧ m ≤ k + f ∧ q = pof a m) := by
  intro f
  induction f with
  | zero => intro T ns i k h _ hi _; exact ⟨ns, h, fun _ _ => rfl, hi, rfl, fun q => ⟨.inl, fun e => by rcases e with e | ⟨m, h1, h2, _⟩; exact e; omega⟩⟩
  | succ f ih =>
    intro T ns i k h hk hi hn
    have hn := hn.resolve_left (by omega)
    obtain ⟨s1, s2, s3, s4⟩ := step_base h (show k + 1 ≤ wd a.v6 by omega) hi hn
    obtain ⟨ns', r1, r2, r3, r4, r5⟩ := ih (stepT T i (bitv a k)) _ (takeI T) (k + 1) s1 (by omega) s3 (by
      by_cases hf : f = 0
      · exact .inl hf
      · right
        rw [step_node h (by omega) hi hn a (k + 1 + 1) (by omega), if_neg (fun e => by have := (pof_inj (a := a) (b := a) (k := k + 1 + 1) (m := k + 1) (by omega) (by omega) e).1; omega)]
        exact nodeAt_none hn 1)
    refine ⟨ns', r1, fun q hq => (r2 q hq).trans (s2 q hq), ?_, ?_, ?_⟩
    · rw [show k + (f + 1) = k + 1 + f from by omega]
      exact r3
    · have hsub : ns.length + 1 ≤ ns'.length := by
        simpa using nodup_le s1.nd (fun q hq => (r5 q).2 (.inl hq))
      show max (growF a f (stepT T i (bitv a k)) (takeI T) (k + 1)).1.ar.length ns'.length = _
      rw [r4, s4]
      omega
    · intro q
      rw [r5, List.mem_cons]
      constructor
      · rintro ((rfl | h1) | ⟨m, h1, h2, h3⟩)
        · exact .inr ⟨k + 1, by omega, by omega, rfl⟩
        · exact .inl h1
        · exact .inr ⟨m, by omega, by omega, h3⟩
      · rintro (h1 | ⟨m, h1, h2, h3⟩)
        · exact .inl (.inr h1)
        · by_cases e : m = k + 1
          · subst e
            exact .inl (.inl h3)
          · exact .inr ⟨m, by omega, by omega, h3⟩
/-- Nodes on a way are let go. -/
theorem prune_base (a : Ad) (way : Nat → Nat) : ∀ (n : Nat) (T : Tr) (ns : List Pf), Base T ns → n ≤ wd a.v6 → (∀ m ≤ n, nodeAt T.ar a m = some (way m)) →
    ∃ ns' m0, m0 ≤ n ∧ Base (pruneF a way n T) ns' ∧ (∀ q, psane q = true → vf (pruneF a way n T) q = vf T q) ∧ (pruneF a way n T).ar.length = T.ar.length ∧ (pruneF a way n T).n = T.n ∧
      (∀ q, q ∈ ns' ↔ q ∈ ns ∧ ∀ m : Nat, m0 < m → m ≤ n → q ≠ pof a m) ∧ (m0 = 0 ∨ (pruneF a way n T).ar.getD (way m0) nd0 ≠ nd0) ∧ nodeAt (pruneF a way n T).ar a m0 = some (way m0) := by
  intro n
  induction n with
  | zero => intro T ns h _ hw; exact ⟨ns, 0, Nat.le_refl _, h, fun _ _ => rfl, rfl, rfl, fun q => ⟨fun e => ⟨e, fun m h1 h2 => by omega⟩, fun e => e.1⟩, .inl rfl, hw 0 (Nat.le_refl _)⟩
  | succ n ih =>
    intro T ns h hk hw
    by_cases hz : isZ (T.ar.getD (way (n + 1)) nd0) = true
    · have hz' := (isZ_iff _).1 hz
      obtain ⟨s1, s2⟩ := drop_base h hk (hw n (by omega)) (hw (n + 1) (Nat.le_refl _)) hz'
      obtain ⟨ns', m0, r0, r1, r2, r3, r4, r5, r6, r7⟩ := ih (dropT T (way n) (way (n + 1)) (bitv a n)) _ s1 (by omega) (fun m hm => by
        rw [drop_node h hk (hw n (by omega)) (hw (n + 1) (Nat.le_refl _)) hz' a m (by omega), if_neg (fun e => by have := (pof_inj (a := a) (b := a) (k := m) (m := n + 1) (by omega) hk e).1; omega)]
        exact hw m (by omega))
      have e : pruneF a way (n + 1) T = pruneF a way n (dropT T (way n) (way (n + 1)) (bitv a n)) := by
        show (if isZ (T.ar.getD (way (n + 1)) nd0) = true then _ else _) = _
        rw [if_pos hz]
      rw [e]
      refine ⟨ns', m0, by omega, r1, fun q hq => (r2 q hq).trans (s2 q hq), ?_, ?_, ?_, r6, r7⟩
      · rw [r3]
        simp [dropT]
      · rw [r4]
        rfl
      · intro q
        rw [r5, h.nd.mem_erase_iff]
        constructor
        · rintro ⟨⟨h1, h2⟩, h3⟩
          refine ⟨h2, fun m h4 h5 => ?_⟩
          by_cases e : m = n + 1
          · subst e
            exact h1
          · exact h3 m h4 (by omega)
        · rintro ⟨h1, h2⟩
          exact ⟨⟨h2 (n + 1) (by omega) (Nat.le_refl _), h1⟩, fun m h4 h5 => h2 m h4 (by omega)⟩
    · have e : pruneF a way (n + 1) T = T := by
        show (if isZ (T.ar.getD (way (n + 1)) nd0) = true then _ else _) = _
        rw [if_neg hz]
      rw [e]
      exact ⟨ns, n + 1, Nat.le_refl _, h, fun _ _ => rfl, rfl, rfl, fun q => ⟨fun e => ⟨e, fun m h1 h2 => by omega⟩, fun e => e.1⟩, .inr (fun e => hz ((isZ_iff _).2 e)), hw _ (Nat.le_refl _)⟩

end Go.Proofs.YtcbfppangiopeaaGreat

namespace Go.Proofs.YtcbfppangiopeaaGreat
open Go.RowKit

/-- The number of a prefix. -/
def lk : List Pr → Pf → Option Int
  | [], _ => none
  | x :: l, q => if x.p = q then some x.v else lk l q
def putL (p : Pf) (v : Int) : List Pr → List Pr
  | [] => [⟨p, v⟩]
  | x :: l => if pcmp x.p p < 0 then x :: putL p v l else if pcmp x.p p = 0 then ⟨p, v⟩ :: l else ⟨p, v⟩ :: x :: l
def delL (p : Pf) (l : List Pr) : List Pr := l.filter fun x => decide (x.p ≠ p)
/-- All may be, and each is ahead of the next ones. -/
def Srt (l : List Pr) : Prop := (∀ x ∈ l, psane x.p = true) ∧ l.Pairwise fun x y => pcmp x.p y.p < 0
theorem srt_nil : Srt [] := ⟨by simp, List.Pairwise.nil⟩
theorem lk_cons (x : Pr) (l : List Pr) (q : Pf) : lk (x :: l) q = if x.p = q then some x.v else lk l q := rfl
theorem srt_cons {x : Pr} {l : List Pr} : Srt (x :: l) ↔ psane x.p = true ∧ (∀ y ∈ l, pcmp x.p y.p < 0) ∧ Srt l := by
  unfold Srt
  rw [List.pairwise_cons]
  constructor
  · rintro ⟨h1, h2, h3⟩
    exact ⟨h1 x (List.mem_cons_self ..), h2, fun y hy => h1 y (List.mem_cons_of_mem _ hy), h3⟩
  · rintro ⟨h1, h2, h3, h4⟩
    refine ⟨fun y hy => ?_, h2, h4⟩
    rcases List.mem_cons.1 hy with rfl | hy
    · exact h1
    · exact h3 y hy
theorem pcmp_self (p : Pf) : pcmp p p = 0 := by
  have := pcmp_anti p p
  omega
theorem pcmp_eq {p q : Pf} (hp : psane p = true) (hq : psane q = true) : pcmp p q = 0 ↔ p = q := by
  have := pcmp_zero hp hq
  rw [← pfEq_iff, ← this]
  simp
theorem pcmp_lt_trans {p q r : Pf} (hp : psane p = true) (hr : psane r = true) (h1 : pcmp p q < 0) (h2 : pcmp q r < 0) : pcmp p r < 0 := by
  have h3 := pcmp_trans p q r (by omega) (by omega)
  by_cases e : pcmp p r = 0
  · have := (pcmp_eq hp hr).1 e
    subst this
    have := pcmp_anti p q
    omega
  · omega
theorem lk_none {l : List Pr} {q : Pf} (h : ∀ x ∈ l, x.p ≠ q) : lk l q = none := by
  induction l with
  | nil => rfl
  | cons x l ih =>
    simp only [lk]
    rw [if_neg (h x (List.mem_cons_self ..))]
    exact ih (fun y hy => h y (List.mem_cons_of_mem _ hy))
theorem lk_some {l : List Pr} (h : Srt l) {x : Pr} (hx : x ∈ l) : lk l x.p = some x.v := by
  induction l with
  | nil => cases hx
  | cons y l ih =>
    obtain ⟨h1, h2, h3⟩ := srt_cons.1 h
    simp only [lk]
    rcases List.mem_cons.1 hx with rfl | hx
    · rw [if_pos rfl]
    · rw [if_neg (fun e => by have := h2 x hx; rw [e, pcmp_self] at this; omega)]
      exact ih h3 hx
theorem lk_mem {l : List Pr} {q : Pf} {v : Int} (h : lk l q = some v) : ⟨q, v⟩ ∈ l := by
  induction l with
  | nil => cases h
  | cons x l ih =>
    simp only [lk] at h
    split at h
    · rename_i e
      obtain rfl := Option.some.inj h
      subst e
      exact List.mem_cons_self ..
    · exact List.mem_cons_of_mem _ (ih h)
theorem mem_put {p : Pf} {v : Int} {l : List Pr} (h : Srt l) (hp : psane p = true) (y : Pr) : y ∈ putL p v l ↔ y = ⟨p, v⟩ ∨ (y ∈ l ∧ y.p ≠ p) := by
  induction l with
  | nil => simp [putL]
  | cons x l ih =>
    obtain ⟨h1, h2, h3⟩ := srt_cons.1 h
    have ih := ih h3
    simp only [putL]
    by_cases c1 : pcmp x.p p < 0
    · rw [if_pos c1, List.mem_cons, ih, List.mem_cons]
      have hne : x.p ≠ p := fun e => by rw [e, pcmp_self] at c1; omega
      constructor
      · rintro (rfl | rfl | ⟨a, b⟩)
        · exact .inr ⟨.inl rfl, hne⟩
        · exact .inl rfl
        · exact .inr ⟨.inr a, b⟩
      · rintro (rfl | ⟨rfl | a, b⟩)
        · exact .inr (.inl rfl)
        · exact .inl rfl
        · exact .inr (.inr ⟨a, b⟩)
    · rw [if_neg c1]
      by_cases c2 : pcmp x.p p = 0
      · have hxp := (pcmp_eq h1 hp).1 c2
        rw [if_pos c2, List.mem_cons, List.mem_cons]
        constructor
        · rintro (rfl | a)
          · exact .inl rfl
          · exact .inr ⟨.inr a, fun e => by have := h2 y a; rw [e, hxp, pcmp_self] at this; omega⟩
        · rintro (rfl | ⟨rfl | a, b⟩)
          · exact .inl rfl
          · exact absurd hxp b
          · exact .inr a
      · rw [if_neg c2, List.mem_cons]
        constructor
        · rintro (rfl | a)
          · exact .inl rfl
          · refine .inr ⟨a, fun e => ?_⟩
            rcases List.mem_cons.1 a with rfl | a
            · rw [e, pcmp_self] at c2
              exact c2 rfl
            · have := h2 y a
              rw [e] at this
              omega
        · rintro (rfl | ⟨a, b⟩)
          · exact .inl rfl
          · exact .inr a
theorem put_srt {p : Pf} {v : Int} {l : List Pr} (h : Srt l) (hp : psane p = true) : Srt (putL p v l) := by
  induction l with
  | nil => exact ⟨fun y hy => by simp [putL] at hy; subst hy; exact hp, by simp [putL]⟩
  | cons x l ih =>
    obtain ⟨h1, h2, h3⟩ := srt_cons.1 h
    simp only [putL]
    by_cases c1 : pcmp x.p p < 0
    · rw [if_pos c1, srt_cons]
      refine ⟨h1, fun y hy => ?_, ih h3⟩
      rcases (mem_put h3 hp y).1 hy with rfl | ⟨a, _⟩
      · exact c1
      · exact h2 y a
    · rw [if_neg c1]
      by_cases c2 : pcmp x.p p = 0
      · have hxp := (pcmp_eq h1 hp).1 c2
        rw [if_pos c2, srt_cons]
        exact ⟨hp, fun y hy => by rw [← hxp]; exact h2 y hy, h3⟩
      · rw [if_neg c2, srt_cons]
        have hpx : pcmp p x.p < 0 := by
          have := pcmp_anti p x.p
          omega
        refine ⟨hp, fun y hy => ?_, h⟩
        rcases List.mem_cons.1 hy with rfl | hy
        · exact hpx
        · exact pcmp_lt_trans hp (h3.1 y hy) hpx (h2 y hy)
theorem lk_put {p : Pf} {v : Int} {l : List Pr} (h : Srt l) (hp : psane p = true) (q : Pf) : lk (putL p v l) q = if q = p then some v else lk l q := by
  have hs := put_srt (v := v) h hp
  by_cases e : q = p
  · subst e
    rw [if_pos rfl]
    exact lk_some hs ((mem_put h hp ⟨q, v⟩).2 (.inl rfl))
  · rw [if_neg e]
    cases hq : lk l q with
    | some x => exact lk_some hs (x := ⟨q, x⟩) ((mem_put h hp _).2 (.inr ⟨lk_mem hq, e⟩))
    | none =>
      apply lk_none
      intro y hy hyq
      rcases (mem_put h hp y).1 hy with rfl | ⟨a, _⟩
      · exact e hyq.symm
      · have := lk_some h a
        rw [hyq, hq] at this
        cases this
theorem put_len {p : Pf} {v : Int} {l : List Pr} (h : Srt l) (hp : psane p = true) : (putL p v l).length = if (lk l p).isSome = true then l.length else l.length + 1 := by
  induction l with
  | nil => simp [putL, lk]
  | cons x l ih =>
    obtain ⟨h1, h2, h3⟩ := srt_cons.1 h
    have ih := ih h3
    have hl := lk_cons x l p
    simp only [putL]
    by_cases c1 : pcmp x.p p < 0
    · have hne : x.p ≠ p := fun e => by rw [e, pcmp_self] at c1; omega
      rw [if_neg hne] at hl
      rw [if_pos c1, hl, List.length_cons, ih, List.length_cons]
      split <;> rfl
    · rw [if_neg c1]
      by_cases c2 : pcmp x.p p = 0
      · have hxp := (pcmp_eq h1 hp).1 c2
        rw [if_pos hxp] at hl
        rw [if_pos c2, hl]
        rfl
      · have hne : x.p ≠ p := fun e => by rw [e, pcmp_self] at c2; exact c2 rfl
        have hn : lk l p = none := lk_none fun y hy e => by
          have := h2 y hy
          rw [e] at this
          omega
        rw [if_neg hne, hn] at hl
        rw [if_neg c2, hl]
        rfl
theorem mem_del {p : Pf} {l : List Pr} (y : Pr) : y ∈ delL p l ↔ y ∈ l ∧ y.p ≠ p := by simp [delL]
theorem del_srt {p : Pf} {l : List Pr} (h : Srt l) : Srt (delL p l) := ⟨fun x hx => h.1 x ((mem_del x).1 hx).1, h.2.filter _⟩
theorem lk_del {p : Pf} {l : List Pr} (h : Srt l) (q : Pf) : lk (delL p l) q = if q = p then none else lk l q := by
  by_cases e : q = p
  · subst e
    rw [if_pos rfl]
    exact lk_none fun y hy => ((mem_del y).1 hy).2
  · rw [if_neg e]
    cases hq : lk l q with
    | some x => exact lk_some (del_srt h) (x := ⟨q, x⟩) ((mem_del _).2 ⟨lk_mem hq, e⟩)
    | none =>
      apply lk_none
      intro y hy hyq
      have := lk_some h ((mem_del y).1 hy).1
      rw [hyq, hq] at this
      cases this
theorem del_none {p : Pf} {l : List Pr} (hl : lk l p = none) : delL p l = l := by
  apply List.filter_eq_self.2
  intro x hx
  have : x.p ≠ p := fun e => by
    have key : ∀ l : List Pr, lk l p = none → ∀ x ∈ l, x.p ≠ p := by
      intro l
      induction l with
      | nil => intro _ x hx; cases hx
      | cons y l ih =>
        intro h x hx
        simp only [lk] at h
        split at h
        · cases h
        · rename_i hne
          rcases List.mem_cons.1 hx with rfl | hx
          · exact hne
          · exact ih h x hx
    exact key l hl x hx e
  simp [this]
theorem del_len {p : Pf} {l : List Pr} (h : Srt l) : (delL p l).length + (if (lk l p).isSome = true then 1 else 0) = l.length := by
  induction l with
  | nil => rfl
  | cons x l ih =>
    obtain ⟨h1, h2, h3⟩ := srt_cons.1 h
    have ih := ih h3
    by_cases e : x.p = p
    · have hd : delL p (x :: l) = delL p l := by simp [delL, e]
      have hn : lk l p = none := lk_none fun y hy e2 => by
        have := h2 y hy
        rw [e, e2, pcmp_self] at this
        omega
      rw [hd, del_none hn]
      simp [lk, e]
    · have hd : delL p (x :: l) = x :: delL p l := by simp [delL, e]
      have hl := lk_cons x l p
      rw [if_neg e] at hl
      rw [hd, hl]
      simp only [List.length_cons]
      omega
/-- Two lists in order with the same pairs are one. -/
theorem srt_ext : ∀ {a b : List Pr}, Srt a → Srt b → (∀ x, x ∈ a ↔ x ∈ b) → a = b := by
  intro a
  induction a with
  | nil =>
    intro b _ _ h
    cases b with
    | nil => rfl
    | cons y b => exact absurd ((h y).2 (List.mem_cons_self ..)) (by simp)
  | cons x a ih =>
    intro b ha hb h
    cases b with
    | nil => exact absurd ((h x).1 (List.mem_cons_self ..)) (by simp)
    | cons y b =>
      obtain ⟨a1, a2, a3⟩ := srt_cons.1 ha
      obtain ⟨b1, b2, b3⟩ := srt_cons.1 hb
      have hxy : x = y := by
        rcases List.mem_cons.1 ((h x).1 (List.mem_cons_self ..)) with e | e
        · exact e
        · rcases List.mem_cons.1 ((h y).2 (List.mem_cons_self ..)) with e' | e'
          · exact e'.symm
          · have h1 := b2 x e
            have h2 := a2 y e'
            have := pcmp_anti x.p y.p
            omega
      subst hxy
      rw [ih a3 b3 (fun z => ?_)]
      have hz := h z
      rw [List.mem_cons, List.mem_cons] at hz
      constructor
      · intro hza
        rcases hz.1 (.inr hza) with e | e
        · have := a2 z hza
          rw [e, pcmp_self] at this
          omega
        · exact e
      · intro hzb
        rcases hz.2 (.inr hzb) with e | e
        · have := b2 z hzb
          rw [e, pcmp_self] at this
          omega
        · exact e
theorem filter_srt {l : List Pr} (h : Srt l) (f : Pr → Bool) : Srt (l.filter f) := ⟨fun x hx => h.1 x (List.mem_filter.1 hx).1, h.2.filter _⟩

end Go.Proofs.YtcbfppangiopeaaGreat

namespace Go.Proofs.YtcbfppangiopeaaGreat
open Go.RowKit

/-- A tree holds these pairs. -/
structure Rep (T : Tr) (L : List Pr) : Prop where
  base : ∃ ns, Base T ns ∧ ∀ q ∈ ns, q.n = 0 ∨ ∃ x ∈ L, pcov q x.p = true
  srt : Srt L
  val : ∀ q, psane q = true → vf T q = lk L q
  cnt : T.n = L.length

theorem setV_getD {T : Tr} {j : Nat} (hj : j < T.ar.length) (th : Bool) (v : Int) (x : Nat) : (T.ar.set j (setV (T.ar.getD j nd0) th v)).getD x nd0 = if j = x then setV (T.ar.getD j nd0) th v else T.ar.getD x nd0 := by
  rw [getD_set]
  by_cases h : j = x
  · subst h
    rw [if_pos ⟨rfl, hj⟩, if_pos rfl]
  · rw [if_neg (fun e => h e.1), if_neg h]
/-- Values change no node. -/
theorem setV_base {T : Tr} {ns : List Pf} (h : Base T ns) {a : Ad} {k j : Nat} (hk : k ≤ wd a.v6) (hj : nodeAt T.ar a k = some j) (th : Bool) (v : Int) (hv : th = false → v = 0) (m : Int) :
    Base { T with ar := T.ar.set j (setV (T.ar.getD j nd0) th v), n := m } ns ∧ (∀ q, psane q = true → vf { T with ar := T.ar.set j (setV (T.ar.getD j nd0) th v), n := m } q = if q = pof a k then (if th = true then some v else none) else vf T q) ∧
      ∀ b i, nodeAt (T.ar.set j (setV (T.ar.getD j nd0) th v)) b i = nodeAt T.ar b i := by
  have hl := h.lt hk hj
  have hgd := setV_getD hl th v
  have hna := fun b i => nodeAt_setV T.ar j th v b i
  have hnt : ∀ q, nodeT { T with ar := T.ar.set j (setV (T.ar.getD j nd0) th v), n := m } q = nodeT T q := fun q => hna _ _
  refine ⟨⟨by simpa using h.len2, h.nd, fun q => by rw [hnt]; exact h.key q, ?_, ?_, ?_, ?_⟩, ?_, hna⟩
  · simp only [hnt, List.length_set]
    exact h.perm
  · intro i hi
    show (T.ar.set j _).getD i nd0 = nd0
    rw [hgd, if_neg (show ¬ j = i from fun e => h.notfree hk hj (e ▸ hi)), h.zero i hi]
  · intro i
    show ((T.ar.set j _).getD i nd0).th = false → ((T.ar.set j _).getD i nd0).v = 0
    rw [hgd]
    split
    · exact hv
    · exact h.zv i
  · intro b i hi
    change nodeAt (T.ar.set j (setV (T.ar.getD j nd0) th v)) b (wd b.v6) = some i at hi
    rw [hna] at hi
    show ((T.ar.set j _).getD i nd0).k0 = 0 ∧ ((T.ar.set j _).getD i nd0).k1 = 0
    rw [hgd]
    split
    · rename_i e
      subst e
      exact h.deep b j hi
    · exact h.deep b i hi
  · intro q hq
    unfold vf
    rw [hnt]
    obtain ⟨m', hm', e1, e2⟩ := nodeT_eq hq
    rw [e1, nodeT_pof T q.a m' hm']
    by_cases e : pof q.a m' = pof a k
    · rw [if_pos e]
      have := pof_inj hm' hk e
      obtain rfl := this.1
      rw [nodeAt_pof T.ar hm' hk e, hj]
      show (if ((T.ar.set j _).getD j nd0).th = true then some ((T.ar.set j _).getD j nd0).v else none) = _
      rw [hgd, if_pos rfl]
      rfl
    · rw [if_neg e]
      cases hn : nodeAt T.ar q.a m' with
      | none => rfl
      | some i =>
        show (if ((T.ar.set j _).getD i nd0).th = true then some ((T.ar.set j _).getD i nd0).v else none) = (if (T.ar.getD i nd0).th = true then some (T.ar.getD i nd0).v else none)
        have hij : ¬ j = i := by
          rintro rfl
          exact e (h.inj hm' hk hn hj)
        rw [hgd, if_neg hij]
/-- The node of a shorter prefix. -/
theorem up_mem {T : Tr} {ns : List Pf} (h : Base T ns) {q r : Pf} (hc : pcov q r = true) (hr : r ∈ ns) : q ∈ ns := by
  obtain ⟨c1, c2, c3, c4, c5⟩ := (pcov_iff q r).1 hc
  obtain ⟨m, hm, e1, e2⟩ := nodeT_eq c1
  obtain ⟨m', hm', e1', e2'⟩ := nodeT_eq c2
  have hn := ((h.key r).1 hr).2
  rw [e1', nodeT_pof T r.a m' hm'] at hn
  obtain ⟨i, hi⟩ := Option.isSome_iff_exists.1 hn
  obtain ⟨j, hj⟩ := nodeAt_up hi m (by omega)
  have hcon : pcon q r.a = true := by
    have := hc
    unfold pcov at this
    simp only [Bool.and_eq_true] at this
    exact this.2
  have e3 := (con_iff_pof q r.a).1 hcon
  rw [e2] at e3
  rw [← e3]
  exact h.mem (by rw [← c4]; exact hm) hj
theorem cov_pof {a : Ad} {m n : Nat} (hm : m ≤ n) (hn : n ≤ wd a.v6) : pcov (pof a m) (pof a n) = true := by
  have h1 := pof_nn a m (by omega)
  have h2 := pof_nn a n hn
  unfold pcov
  simp only [Bool.and_eq_true, decide_eq_true_eq]
  refine ⟨⟨psane_pof _ _, by rw [h1, h2]; omega⟩, (con_iff_pof _ _).2 ?_⟩
  rw [h1]
  exact (pof_eq_iff _ _ _ (by rw [pof_v6]; omega) (pof_v6 _ _)).2 (fun j hj => pof_bit a n j hn (by omega))
/-- What is put is there. -/
theorem rep_put {T : Tr} {L : List Pr} (h : Rep T L) {p : Pf} (hp : psane p = true) (v : Int) {m i : Nat} (hi : nodeAt T.ar p.a m = some i) (hm : (m : Int) ≤ p.n) (hm2 : (m : Int) = p.n ∨ nodeAt T.ar p.a (m + 1) = none) :
    Rep (putN (growF p.a (p.n.toNat - m) T i m).1 (growF p.a (p.n.toNat - m) T i m).2 v) (putL p v L) ∧
      ∃ ns', Base (putN (growF p.a (p.n.toNat - m) T i m).1 (growF p.a (p.n.toNat - m) T i m).2 v) ns' ∧ (putN (growF p.a (p.n.toNat - m) T i m).1 (growF p.a (p.n.toNat - m) T i m).2 v).ar.length = max T.ar.length ns'.length := by
  obtain ⟨ns, hb, hneed⟩ := h.base
  obtain ⟨n0, n1⟩ := psane_bd hp
  rw [wid_wd] at n1
  have ep : pof p.a (p.n.toNat : Nat) = p := by
    rw [show ((p.n.toNat : Nat) : Int) = p.n from by omega]
    exact pof_self hp
  obtain ⟨ns', g1, g2, g3, g4, g5⟩ := grow_base p.a (p.n.toNat - m) T ns i m hb (by omega) hi (by
    rcases hm2 with e | e
    · exact .inl (by omega)
    · exact .inr e)
  have gn : (growF p.a (p.n.toNat - m) T i m).1.n = T.n := by
    have : ∀ (f : Nat) (T : Tr) (i k : Nat), (growF p.a f T i k).1.n = T.n := by
      intro f
      induction f with
      | zero => intro T i k; rfl
      | succ f ih =>
        intro T i k
        show (growF p.a f (stepT T i (bitv p.a k)) (takeI T) (k + 1)).1.n = T.n
        rw [ih]
        simp only [stepT, takeT]
        split <;> rfl
    exact this _ _ _ _
  rw [show m + (p.n.toNat - m) = p.n.toNat from by omega] at g3 g5
  generalize growF p.a (p.n.toNat - m) T i m = R at g1 g2 g3 g4 gn ⊢
  obtain ⟨T1, j⟩ := R
  simp only at g1 g2 g3 g4 gn ⊢
  obtain ⟨s1, s2, s3⟩ := setV_base g1 (by omega) g3 true v (by simp) (if (T1.ar.getD j nd0).th = true then T1.n else T1.n + 1)
  have hth : (T1.ar.getD j nd0).th = (lk L p).isSome := by
    have e := (g2 p hp).trans (h.val p hp)
    rw [← e]
    unfold vf
    rw [← ep, nodeT_pof T1 p.a _ (by omega), g3]
    simp only [Option.bind_some]
    cases (T1.ar.getD j nd0).th <;> rfl
  refine ⟨⟨⟨ns', s1, ?_⟩, put_srt h.srt hp, ?_, ?_⟩, ns', s1, ?_⟩
  · intro q hq
    rcases (g5 q).1 hq with hq | ⟨m', h1, h2, rfl⟩
    · rcases hneed q hq with e | ⟨x, hx, hc⟩
      · exact .inl e
      · right
        by_cases e : x.p = p
        · exact ⟨⟨p, v⟩, (mem_put h.srt hp _).2 (.inl rfl), by rw [← e]; exact hc⟩
        · exact ⟨x, (mem_put h.srt hp _).2 (.inr ⟨hx, e⟩), hc⟩
    · right
      refine ⟨⟨p, v⟩, (mem_put h.srt hp _).2 (.inl rfl), ?_⟩
      have := cov_pof (a := p.a) h2 (by omega)
      rw [ep] at this
      exact this
  · intro q hq
    have := s2 q hq
    rw [ep] at this
    refine this.trans ?_
    rw [lk_put h.srt hp q]
    by_cases e : q = p
    · rw [if_pos e, if_pos e, if_pos rfl]
    · rw [if_neg e, if_neg e, g2 q hq, h.val q hq]
  · show (if (T1.ar.getD j nd0).th = true then T1.n else T1.n + 1) = _
    rw [put_len h.srt hp, hth, gn, h.cnt]
    split <;> simp
  · show (T1.ar.set j _).length = _
    rw [List.length_set]
    have := g1.len
    omega
/-- What is taken out is not there. -/
theorem rep_del {T : Tr} {L : List Pr} (h : Rep T L) {p : Pf} (hp : psane p = true) {i : Nat} (hi : atT T p = some i) (hth : (T.ar.getD i nd0).th = true) :
    Rep (pruneF p.a (wayN (delN T i) p.a) p.n.toNat (delN T i)) (delL p L) ∧ (pruneF p.a (wayN (delN T i) p.a) p.n.toNat (delN T i)).ar.length = T.ar.length := by
  obtain ⟨ns, hb, hneed⟩ := h.base
  obtain ⟨n0, n1⟩ := psane_bd hp
  rw [wid_wd] at n1
  have ep : pof p.a (p.n.toNat : Nat) = p := by
    rw [show ((p.n.toNat : Nat) : Int) = p.n from by omega]
    exact pof_self hp
  have hi' : nodeAt T.ar p.a p.n.toNat = some i := by
    unfold atT at hi
    rw [if_pos hp] at hi
    exact hi
  obtain ⟨s1, s2, s3⟩ := setV_base hb (by omega) hi' false 0 (fun _ => rfl) (T.n - 1)
  have hlk : (lk L p).isSome = true := by
    rw [← h.val p hp]
    unfold vf
    rw [← ep, nodeT_pof T p.a _ (by omega), hi']
    simp only [Option.bind_some, hth, if_true]
    rfl
  obtain ⟨ns', m0, r0, r1, r2, r3, r4, r5, r6, r7⟩ := prune_base p.a (wayN (delN T i) p.a) p.n.toNat (delN T i) ns s1 (by omega) (fun m hm => by
    have := (s3 p.a p.n.toNat).trans hi'
    obtain ⟨j, hj⟩ := nodeAt_up this m hm
    unfold wayN
    show nodeAt (T.ar.set i _) p.a m = some ((nodeAt (T.ar.set i _) p.a m).getD 0)
    rw [hj]
    rfl)
  have hval : ∀ q, psane q = true → vf (pruneF p.a (wayN (delN T i) p.a) p.n.toNat (delN T i)) q = lk (delL p L) q := by
    intro q hq
    refine (r2 q hq).trans ((s2 q hq).trans ?_)
    rw [ep, lk_del h.srt q]
    by_cases e : q = p
    · rw [if_pos e, if_pos e]
      rfl
    · rw [if_neg e, if_neg e, h.val q hq]
  refine ⟨⟨⟨ns', r1, ?_⟩, del_srt h.srt, hval, ?_⟩, ?_⟩
  · intro q hq
    obtain ⟨h1, h2⟩ := (r5 q).1 hq
    rcases hneed q h1 with e | ⟨x, hx, hc⟩
    · exact .inl e
    · by_cases e : x.p = p
      · rw [e] at hc
        have hqp : ∃ m : Nat, m ≤ p.n.toNat ∧ q = pof p.a m := by
          obtain ⟨c1, c2, c3, c4, c5⟩ := (pcov_iff q p).1 hc
          obtain ⟨m, hm, e1, e2⟩ := nodeT_eq c1
          refine ⟨m, by omega, ?_⟩
          have hcon : pcon q p.a = true := by
            have := hc
            unfold pcov at this
            simp only [Bool.and_eq_true] at this
            exact this.2
          have e3 := (con_iff_pof q p.a).1 hcon
          rw [e2] at e3
          exact e3.symm
        obtain ⟨m, hm, rfl⟩ := hqp
        have hmm : m ≤ m0 := by
          rcases Nat.lt_or_ge m0 m with h3 | h3
          · exact absurd rfl (h2 m h3 hm)
          · exact h3
        by_cases hm0 : m = 0
        · left
          rw [hm0]
          exact pof_nn p.a 0 (Nat.zero_le _)
        · right
          have hnz := r6.resolve_left (by omega)
          generalize pruneF p.a (wayN (delN T i) p.a) p.n.toNat (delN T i) = T' at r1 r2 hval r7 hnz r3
          generalize wayN (delN T i) p.a m0 = y at hnz r7
          have hm0n : m0 ≤ wd p.a.v6 := by omega
          have hcm : pcov (pof p.a m) (pof p.a m0) = true := cov_pof hmm hm0n
          by_cases hty : (T'.ar.getD y nd0).th = true
          · have e5 : vf T' (pof p.a m0) = some (T'.ar.getD y nd0).v := by
              unfold vf
              rw [nodeT_pof T' p.a m0 hm0n, r7]
              simp only [Option.bind_some, hty, if_true]
            rw [hval _ (psane_pof _ _)] at e5
            exact ⟨_, lk_mem e5, hcm⟩
          · have hty' : (T'.ar.getD y nd0).th = false := by simpa using hty
            have hv0 := r1.zv y hty'
            have hk : (T'.ar.getD y nd0).k0 ≠ 0 ∨ (T'.ar.getD y nd0).k1 ≠ 0 := by
              rcases Nat.eq_zero_or_pos (T'.ar.getD y nd0).k0 with e6 | e6
              · rcases Nat.eq_zero_or_pos (T'.ar.getD y nd0).k1 with e7 | e7
                · exfalso
                  apply hnz
                  generalize T'.ar.getD y nd0 = z at hty' hv0 e6 e7
                  obtain ⟨a1, a2, a3, a4⟩ := z
                  simp only at hty' hv0 e6 e7
                  subst hty' hv0 e6 e7
                  rfl
                · exact .inr (by omega)
              · exact .inl (by omega)
            have hkid : ∃ d : Int, (d = 0 ∨ d = 1) ∧ kid (T'.ar.getD y nd0) d ≠ 0 := by
              rcases hk with e6 | e6
              · exact ⟨0, .inl rfl, e6⟩
              · exact ⟨1, .inr rfl, e6⟩
            obtain ⟨d, hd, hkd⟩ := hkid
            have hpn := pof_nn p.a m0 hm0n
            have hkc := kid_child (T := T') (p := pof p.a m0) (i := y) (psane_pof _ _) (by
              have := nodeT_pof T' p.a m0 hm0n
              unfold nodeT at this
              rw [this]
              exact r7) r1.deep d hd hkd
            obtain ⟨k1, k2, k3, k4, k5, k6⟩ := hkc
            have hcc := cov_child (psane_pof p.a m0) k1 d
            generalize (pchild (pof p.a m0) d).1 = c at k3 k4 k5 k6 hcc
            have hcm' : c ∈ ns' := (r1.key c).2 ⟨k3, by unfold nodeT; rw [k4]; rfl⟩
            obtain ⟨j1, j2⟩ := (r5 c).1 hcm'
            rcases hneed c j1 with e8 | ⟨x', hx', hc'⟩
            · omega
            · by_cases e9 : x'.p = p
              · exfalso
                rw [e9] at hc'
                obtain ⟨c1, c2, c3, c4, c5⟩ := (pcov_iff c p).1 hc'
                have hcon : pcon c p.a = true := by
                  have := hc'
                  unfold pcov at this
                  simp only [Bool.and_eq_true] at this
                  exact this.2
                have e3 := (con_iff_pof c p.a).1 hcon
                refine j2 (m0 + 1) (by omega) (by omega) ?_
                rw [← e3, k6, hpn]
                rfl
              · exact ⟨x', (mem_del x').2 ⟨hx', e9⟩, cov_trans hcm (cov_trans hcc hc')⟩
      · exact .inr ⟨x, (mem_del x).2 ⟨hx, e⟩, hc⟩
  · rw [r4]
    show T.n - 1 = _
    have := del_len (p := p) h.srt
    rw [if_pos hlk] at this
    rw [h.cnt]
    omega
  · rw [r3]
    show (T.ar.set i _).length = _
    rw [List.length_set]

end Go.Proofs.YtcbfppangiopeaaGreat

namespace Go.Proofs.YtcbfppangiopeaaGreat
open Go.RowKit

theorem pcov_con {q p : Pf} (h : pcov q p = true) : pcon q p.a = true := by
  unfold pcov at h
  simp only [Bool.and_eq_true] at h
  exact h.2
/-- Those that cover one are its first digits. -/
theorem cov_iff_pof {q p : Pf} (hp : psane p = true) : pcov q p = true ↔ ∃ m : Nat, (m : Int) ≤ p.n ∧ q = pof p.a m := by
  obtain ⟨n0, n1⟩ := psane_bd hp
  rw [wid_wd] at n1
  constructor
  · intro h
    obtain ⟨c1, c2, c3, c4, c5⟩ := (pcov_iff q p).1 h
    obtain ⟨m, hm, e1, e2⟩ := nodeT_eq c1
    have e3 := (con_iff_pof q p.a).1 (pcov_con h)
    rw [e2] at e3
    exact ⟨m, by omega, e3.symm⟩
  · rintro ⟨m, hm, rfl⟩
    have := cov_pof (a := p.a) (m := m) (n := p.n.toNat) (by omega) (by omega)
    rw [show ((p.n.toNat : Nat) : Int) = p.n from by omega, pof_self hp] at this
    exact this
theorem pof_lt {a : Ad} {k m : Nat} (h : k < m) (hm : m ≤ wd a.v6) : pcmp (pof a k) (pof a m) < 0 := by
  have h1 := cov_cmp (cov_pof (a := a) (Nat.le_of_lt h) hm)
  have h2 : pcmp (pof a k) (pof a m) ≠ 0 := fun e => by
    have := (pcmp_eq (psane_pof a k) (psane_pof a m)).1 e
    have := (pof_inj (a := a) (b := a) (k := k) (m := m) (by omega) hm this).1
    omega
  omega

section
variable {T : Tr} {L : List Pr}
theorem rep_node (h : Rep T L) {q : Pf} (hq : psane q = true) (h0 : q.n ≠ 0) : (∃ i, nodeT T q = some i) ↔ ∃ x ∈ L, pcov q x.p = true := by
  obtain ⟨ns, hb, hneed⟩ := h.base
  constructor
  · rintro ⟨i, hi⟩
    exact (hneed q ((hb.key q).2 ⟨hq, by rw [hi]; rfl⟩)).resolve_left h0
  · rintro ⟨x, hx, hc⟩
    have hv := h.val x.p (h.srt.1 x hx)
    rw [lk_some h.srt hx] at hv
    have hm : x.p ∈ ns := (hb.key _).2 ⟨h.srt.1 x hx, by
      cases hn : nodeT T x.p with
      | none => unfold vf at hv; rw [hn] at hv; cases hv
      | some j => rfl⟩
    exact Option.isSome_iff_exists.1 ((hb.key q).1 (up_mem hb hc hm)).2
theorem rep_get (h : Rep T L) (p : Pf) : getT T p = if psane p = true then lk L p else none := by
  unfold getT atT
  by_cases hp : psane p = true
  · rw [if_pos hp, if_pos hp, ← h.val p hp]
    rfl
  · rw [if_neg hp, if_neg hp]
    rfl
/-- The number at the first k digits. -/
theorem aboveK_succ (h : Rep T L) {p : Pf} (hp : psane p = true) {k : Nat} (hk : (k : Int) ≤ p.n) : aboveK T p (k + 1) = aboveK T p k ++ (match lk L (pof p.a k) with | none => [] | some v => [⟨pof p.a k, v⟩]) := by
  obtain ⟨n0, n1⟩ := psane_bd hp
  rw [wid_wd] at n1
  have hv := h.val (pof p.a k) (psane_pof _ _)
  unfold vf at hv
  rw [nodeT_pof T p.a k (by omega)] at hv
  rw [← hv]
  simp only [aboveK]
  congr 1
  cases nodeAt T.ar p.a k with
  | none => rfl
  | some i =>
    simp only [Option.bind_some]
    by_cases ht : (T.ar.getD i nd0).th = true
    · rw [if_pos ht, if_pos ht]
    · rw [if_neg ht, if_neg ht]
theorem mem_aboveK (h : Rep T L) {p : Pf} (hp : psane p = true) : ∀ K : Nat, (K : Int) ≤ p.n + 1 → ∀ x, x ∈ aboveK T p K ↔ ∃ k : Nat, k < K ∧ x.p = pof p.a k ∧ lk L (pof p.a k) = some x.v := by
  intro K
  induction K with
  | zero => intro _ x; constructor
            · intro hx; cases hx
            · rintro ⟨k, hk, _⟩; omega
  | succ K ih =>
    intro hK x
    rw [aboveK_succ h hp (by omega), List.mem_append, ih (by omega)]
    constructor
    · rintro (⟨k, h1, h2⟩ | hx)
      · exact ⟨k, by omega, h2⟩
      · cases hl : lk L (pof p.a K) with
        | none => rw [hl] at hx; cases hx
        | some v =>
          rw [hl] at hx
          simp only [List.mem_singleton] at hx
          subst hx
          exact ⟨K, by omega, rfl, hl⟩
    · rintro ⟨k, h1, h2, h3⟩
      by_cases e : k = K
      · subst e
        right
        rw [h3]
        simp only [List.mem_singleton]
        obtain ⟨a, b⟩ := x
        simp only at h2
        subst h2
        rfl
      · exact .inl ⟨k, by omega, h2, h3⟩
theorem aboveK_srt (h : Rep T L) {p : Pf} (hp : psane p = true) : ∀ K : Nat, (K : Int) ≤ p.n + 1 → Srt (aboveK T p K) := by
  obtain ⟨n0, n1⟩ := psane_bd hp
  rw [wid_wd] at n1
  intro K
  induction K with
  | zero => intro _; exact srt_nil
  | succ K ih =>
    intro hK
    have ih := ih (by omega)
    refine ⟨fun x hx => ?_, ?_⟩
    · obtain ⟨k, h1, h2, _⟩ := (mem_aboveK h hp (K + 1) hK x).1 hx
      rw [h2]
      exact psane_pof _ _
    · rw [aboveK_succ h hp (by omega), List.pairwise_append]
      refine ⟨ih.2, ?_, fun x hx y hy => ?_⟩
      · split <;> simp
      · obtain ⟨k, h1, h2, _⟩ := (mem_aboveK h hp K (by omega) x).1 hx
        have hy' : y.p = pof p.a K := by
          cases hl : lk L (pof p.a K) with
          | none => rw [hl] at hy; cases hy
          | some v =>
            rw [hl] at hy
            simp only [List.mem_singleton] at hy
            rw [hy]
        rw [h2, hy']
        exact pof_lt h1 (by omega)
theorem rep_above (h : Rep T L) {p : Pf} (hp : psane p = true) {m : Nat} (hm : WayEnds T p m) : aboveK T p (m + 1) = L.filter (fun x => pcov x.p p) := by
  obtain ⟨n0, n1⟩ := psane_bd hp
  rw [wid_wd] at n1
  obtain ⟨h1, ⟨i, hi⟩, h3⟩ := hm
  refine srt_ext (aboveK_srt h hp _ (by omega)) (filter_srt h.srt _) (fun x => ?_)
  rw [mem_aboveK h hp _ (by omega), List.mem_filter]
  constructor
  · rintro ⟨k, k1, k2, k3⟩
    have hx : x = ⟨pof p.a k, x.v⟩ := by rw [← k2]
    refine ⟨by rw [hx]; exact lk_mem k3, ?_⟩
    rw [k2]
    exact (cov_iff_pof hp).2 ⟨k, by omega, rfl⟩
  · rintro ⟨hx, hc⟩
    obtain ⟨k, k1, k2⟩ := (cov_iff_pof hp).1 hc
    have hl := lk_some h.srt hx
    refine ⟨k, ?_, k2, by rw [← k2]; exact hl⟩
    rcases Nat.lt_or_ge k (m + 1) with e | e
    · exact e
    · exfalso
      have hn : nodeAt T.ar p.a k = none := by
        rcases h3 with e' | e'
        · omega
        · have := nodeAt_none e' (k - (m + 1))
          rw [show m + 1 + (k - (m + 1)) = k from by omega] at this
          exact this
      have hv := h.val (pof p.a k) (psane_pof _ _)
      unfold vf at hv
      rw [nodeT_pof T p.a k (by omega), hn, ← k2, hl] at hv
      cases hv
theorem child_lt {p : Pf} (hp : psane p = true) (hlt : p.n < wid p.a.v6) {x y : Pf} (hx : pcov (pchild p 0).1 x = true) (hy : pcov (pchild p 1).1 y = true) : pcmp x y < 0 := by
  have hw := wid_wd p.a.v6
  obtain ⟨n0, n1⟩ := psane_bd hp
  have hl := wd_le p.a.v6
  rw [child_eq p 0 hp hlt] at hx
  rw [child_eq p 1 hp hlt] at hy
  obtain ⟨-, -, -, v1, d1⟩ := (pcov_iff _ _).1 hx
  obtain ⟨-, -, -, v2, d2⟩ := (pcov_iff _ _).1 hy
  simp only at d1 d2 v1 v2
  rw [set_v6] at v1 v2
  have e1 : D x.a (127 - p.n).toNat = false := by
    rw [d1 _ (by omega), child_D p 0 hp hlt, if_pos (by omega)]
    rfl
  have e2 : D y.a (127 - p.n).toNat = true := by
    rw [d2 _ (by omega), child_D p 1 hp hlt, if_pos (by omega)]
    rfl
  have hV : V x.a < V y.a := lt_of_bit' e1 e2 (fun j hj => by
    have a1 := d1 j (by omega)
    have a2 := d2 j (by omega)
    rw [child_D p 0 hp hlt, if_neg (by omega)] at a1
    rw [child_D p 1 hp hlt, if_neg (by omega)] at a2
    exact a1.trans a2.symm)
  have hc := cmp_V x.a y.a (v1.symm.trans v2)
  rw [if_pos hV] at hc
  unfold pcmp
  rw [hc]
  simp
theorem cov_split {p : Pf} (hp : psane p = true) (hlt : p.n < wid p.a.v6) {x : Pf} (hx : psane x = true) : pcov p x = true ↔ x = p ∨ pcov (pchild p 0).1 x = true ∨ pcov (pchild p 1).1 x = true := by
  have hw := wid_wd p.a.v6
  obtain ⟨n0, n1⟩ := psane_bd hp
  constructor
  · intro h
    by_cases e : x = p
    · exact .inl e
    · right
      have hc0 := cov_child hp hlt 0
      obtain ⟨m, m1, m2⟩ := (cov_iff_pof hx).1 h
      obtain ⟨k, k1, k2, k3⟩ := nodeT_eq hx
      obtain ⟨-, -, -, v6, -⟩ := (pcov_iff _ _).1 h
      have hpm : p.n = m := by
        rw [m2]
        exact pof_nn _ _ (by omega)
      have hne : (m : Int) < x.n := by
        rcases Int.lt_or_le (m : Int) x.n with h1 | h1
        · exact h1
        · exfalso
          apply e
          have : (m : Int) = x.n := by omega
          rw [m2, this]
          exact (pof_self hx).symm
      have hcov : pcov (pof x.a ((m + 1 : Nat) : Int)) x = true := (cov_iff_pof hx).2 ⟨m + 1, by omega, rfl⟩
      have hmw : m + 1 ≤ wd x.a.v6 := by omega
      have key : ∀ d : Int, (d = 0 ∨ d = 1) → bitv x.a m = d → (pchild p d).1 = pof x.a ((m + 1 : Nat) : Int) := by
        intro d hd hb
        have h1 := child_eq p d hp hlt
        have hs := child_sane p d hp hlt
        rw [h1]
        show (⟨setv p.a p.n d, p.n + 1⟩ : Pf) = _
        have hcon : pcon ⟨setv p.a p.n d, p.n + 1⟩ x.a = true := pcon_bits _ _ hs (by rw [set_v6]; exact v6.symm) (fun i hi => by
          simp only at hi
          by_cases hi2 : (i : Int) = p.n
          · have hi3 : i = m := by omega
            subst hi3
            have := kin_bit p d hp hlt
            rw [hpm] at this
            show bitv x.a i = bitv (setv p.a p.n d) i
            rw [hpm, this, hb]
            rcases hd with rfl | rfl <;> rfl
          · have e3 := D_set p.a m d (by rw [hw, hpm] at hlt; omega) (127 - i)
            rw [if_neg (by have := wd_le p.a.v6; omega)] at e3
            show bitv x.a i = bitv (setv p.a p.n d) i
            rw [hpm, bitv_D _ _ (by omega), bitv_D _ _ (by rw [set_v6]; omega), e3]
            have := pcon_bit _ _ (pcov_con h) i (by omega)
            rw [bitv_D _ _ (by omega), bitv_D _ _ (by omega)] at this
            exact this)
        have e4 := (con_iff_pof _ _).1 hcon
        rw [← e4]
        show pof x.a (p.n + 1) = _
        rw [hpm]
        rfl
      rcases bitv_01 x.a m with hb | hb
      · left
        rw [key 0 (.inl rfl) hb]
        exact hcov
      · right
        rw [key 1 (.inr rfl) hb]
        exact hcov
  · rintro (rfl | h | h)
    · exact cov_refl _ hx
    · exact cov_trans (cov_child hp hlt 0) h
    · exact cov_trans (cov_child hp hlt 1) h
end

end Go.Proofs.YtcbfppangiopeaaGreat

namespace Go.Proofs.YtcbfppangiopeaaGreat
open Go.RowKit

section
variable {T : Tr} {L : List Pr}
theorem filter_none {l : List Pr} {f : Pr → Bool} (h : ∀ x ∈ l, f x = false) : l.filter f = [] := List.filter_eq_nil_iff.2 fun x hx => by simp [h x hx]
/-- A kid that is not there has nothing below it. -/
theorem kid_none (h : Rep T L) {p : Pf} (hp : psane p = true) (hlt : p.n < wid p.a.v6) {i : Nat} (hi : nodeT T p = some i) (d : Int) (hd : d = 0 ∨ d = 1) (hk : kid (T.ar.getD i nd0) d = 0) : ∀ x ∈ L, pcov (pchild p d).1 x.p = false := by
  intro x hx
  cases hc : pcov (pchild p d).1 x.p
  · rfl
  · exfalso
    have hce := child_eq p d hp hlt
    obtain ⟨n0, n1⟩ := psane_bd hp
    have hs : psane (pchild p d).1 = true := by rw [hce]; exact child_sane p d hp hlt
    obtain ⟨j, hj⟩ := (rep_node h hs (by rw [hce]; simp only; omega)).2 ⟨x, hx, hc⟩
    rw [hce] at hj
    unfold nodeT at hj
    have e1 : (p.n + 1).toNat = p.n.toNat + 1 := by omega
    have e2 : ((p.n.toNat : Nat) : Int) = p.n := by omega
    have hw := wid_wd p.a.v6
    simp only [e1] at hj
    change (nodeAt T.ar (setv p.a p.n d) p.n.toNat).bind _ = _ at hj
    have hb : bitv (setv p.a p.n d) p.n = d := by
      rw [kin_bit p d hp hlt]
      rcases hd with rfl | rfl <;> rfl
    unfold nodeT at hi
    rw [nodeAt_congr (b := p.a) _ (set_v6 _ _ _) (fun j hj => ?_), hi] at hj
    · simp only [Option.bind_some, e2, hb, hk, if_true] at hj
      cases hj
    · have e3 := D_set p.a p.n.toNat d (by omega) (127 - j)
      rw [if_neg (by have := wd_le p.a.v6; omega), e2] at e3
      rw [bitv_D _ _ (by rw [set_v6]; omega), bitv_D _ _ (by omega), e3]
theorem shown_eq (h : Rep T L) {p : Pf} (hp : psane p = true) {i : Nat} (hi : nodeT T p = some i) : shown T p i = match lk L p with | none => [] | some v => [⟨p, v⟩] := by
  have hv := h.val p hp
  unfold vf at hv
  rw [hi] at hv
  rw [← hv]
  simp only [Option.bind_some, shown]
  by_cases ht : (T.ar.getD i nd0).th = true
  · rw [if_pos ht, if_pos ht]
  · rw [if_neg ht, if_neg ht]
theorem mem_shown (h : Rep T L) {p : Pf} (hp : psane p = true) {i : Nat} (hi : nodeT T p = some i) (x : Pr) : x ∈ shown T p i ↔ x ∈ L ∧ x.p = p := by
  rw [shown_eq h hp hi]
  constructor
  · intro hx
    cases hl : lk L p with
    | none => rw [hl] at hx; cases hx
    | some v =>
      rw [hl] at hx
      simp only [List.mem_singleton] at hx
      subst hx
      exact ⟨lk_mem hl, rfl⟩
  · rintro ⟨hx, rfl⟩
    rw [lk_some h.srt hx]
    simp
theorem shown_srt (h : Rep T L) {p : Pf} (hp : psane p = true) {i : Nat} (hi : nodeT T p = some i) : Srt (shown T p i) := by
  refine ⟨fun x hx => by rw [((mem_shown h hp hi x).1 hx).2]; exact hp, ?_⟩
  unfold shown
  split <;> simp
theorem deep_of (h : Rep T L) : Deep T := by
  obtain ⟨ns, hb, _⟩ := h.base
  exact hb.deep
/-- What lies below a prefix's node is what it covers. -/
theorem rep_below (h : Rep T L) : ∀ (f : Nat) (p : Pf) (i : Nat), psane p = true → nodeT T p = some i → wd p.a.v6 - p.n.toNat < f → belowF T f p i = L.filter (fun x => pcov p x.p) := by
  intro f
  induction f with
  | zero => intro p i _ _ h; omega
  | succ f ih =>
    intro p i hp hi hf
    obtain ⟨n0, n1⟩ := psane_bd hp
    have hw := wid_wd p.a.v6
    by_cases hlt : p.n < wid p.a.v6
    · have part : ∀ d : Int, (d = 0 ∨ d = 1) → (if kid (T.ar.getD i nd0) d = 0 then [] else belowF T f (pchild p d).1 (kid (T.ar.getD i nd0) d)) = L.filter (fun x => pcov (pchild p d).1 x.p) := by
        intro d hd
        by_cases hk : kid (T.ar.getD i nd0) d = 0
        · rw [if_pos hk]
          exact (filter_none (kid_none h hp hlt hi d hd hk)).symm
        · rw [if_neg hk]
          obtain ⟨k1, k2, k3, k4, k5, k6⟩ := kid_child hp hi (deep_of h) d hd hk
          exact ih _ _ k3 k4 (by rw [k5, k6]; omega)
      have p0 := part 0 (.inl rfl)
      have p1 := part 1 (.inr rfl)
      have e0 : kid (T.ar.getD i nd0) 0 = (T.ar.getD i nd0).k0 := rfl
      have e1 : kid (T.ar.getD i nd0) 1 = (T.ar.getD i nd0).k1 := rfl
      rw [e0] at p0
      rw [e1] at p1
      simp only [belowF, p0, p1]
      refine srt_ext ⟨fun x hx => ?_, ?_⟩ (filter_srt h.srt _) (fun x => ?_)
      · rw [List.mem_append, List.mem_append] at hx
        rcases hx with (hx | hx) | hx
        · exact (shown_srt h hp hi).1 x hx
        · exact (filter_srt h.srt _).1 x hx
        · exact (filter_srt h.srt _).1 x hx
      · rw [List.pairwise_append, List.pairwise_append]
        refine ⟨⟨(shown_srt h hp hi).2, (filter_srt h.srt _).2, fun x hx y hy => ?_⟩, (filter_srt h.srt _).2, fun x hx y hy => ?_⟩
        · obtain ⟨hx1, hx2⟩ := (mem_shown h hp hi x).1 hx
          obtain ⟨hy1, hy2⟩ := List.mem_filter.1 hy
          rw [hx2]
          have hc := cov_trans (cov_child hp hlt 0) hy2
          have h1 := cov_cmp hc
          have h2 : pcmp p y.p ≠ 0 := fun e => by
            have := (pcmp_eq hp (h.srt.1 y hy1)).1 e
            rw [← this] at hy2
            have := ((pcov_iff _ _).1 hy2).2.2.1
            rw [child_eq p 0 hp hlt] at this
            simp only at this
            omega
          omega
        · obtain ⟨hy1, hy2⟩ := List.mem_filter.1 hy
          rw [List.mem_append] at hx
          rcases hx with hx | hx
          · obtain ⟨hx1, hx2⟩ := (mem_shown h hp hi x).1 hx
            rw [hx2]
            have hc := cov_trans (cov_child hp hlt 1) hy2
            have h1 := cov_cmp hc
            have h2 : pcmp p y.p ≠ 0 := fun e => by
              have := (pcmp_eq hp (h.srt.1 y hy1)).1 e
              rw [← this] at hy2
              have := ((pcov_iff _ _).1 hy2).2.2.1
              rw [child_eq p 1 hp hlt] at this
              simp only at this
              omega
            omega
          · exact child_lt hp hlt (List.mem_filter.1 hx).2 hy2
      · rw [List.mem_append, List.mem_append, mem_shown h hp hi, List.mem_filter, List.mem_filter, List.mem_filter]
        constructor
        · rintro ((⟨a, b⟩ | ⟨a, b⟩) | ⟨a, b⟩)
          · exact ⟨a, (cov_split hp hlt (h.srt.1 x a)).2 (.inl b)⟩
          · exact ⟨a, (cov_split hp hlt (h.srt.1 x a)).2 (.inr (.inl b))⟩
          · exact ⟨a, (cov_split hp hlt (h.srt.1 x a)).2 (.inr (.inr b))⟩
        · rintro ⟨a, b⟩
          rcases (cov_split hp hlt (h.srt.1 x a)).1 b with c | c | c
          · exact .inl (.inl ⟨a, c⟩)
          · exact .inl (.inr ⟨a, c⟩)
          · exact .inr ⟨a, c⟩
    · have hk := deep_of h p.a i (by
        have e : p.n.toNat = wd p.a.v6 := by omega
        unfold nodeT at hi
        rw [e] at hi
        exact hi)
      simp only [belowF, hk.1, hk.2, if_true, List.append_nil]
      refine srt_ext (shown_srt h hp hi) (filter_srt h.srt _) (fun x => ?_)
      rw [mem_shown h hp hi, List.mem_filter]
      constructor
      · rintro ⟨a, rfl⟩
        exact ⟨a, cov_refl _ hp⟩
      · rintro ⟨a, b⟩
        refine ⟨a, ?_⟩
        obtain ⟨m, m1, m2⟩ := (cov_iff_pof (h.srt.1 x a)).1 b
        obtain ⟨c1, c2, c3, c4, c5⟩ := (pcov_iff _ _).1 b
        have hb := psane_bd c2
        rw [← c4] at hb
        have : p.n = x.p.n := by omega
        rw [m2]
        have hm : p.n = m := by
          have := nodeT_eq c2
          obtain ⟨k, k1, k2, k3⟩ := this
          rw [m2]
          exact pof_nn _ _ (by omega)
        rw [← hm, this]
        exact (pof_self c2).symm
theorem rep_under_none (h : Rep T L) {p : Pf} (hp : psane p = true) (hi : nodeT T p = none) : L.filter (fun x => pcov p x.p) = [] := by
  apply filter_none
  intro x hx
  cases hc : pcov p x.p
  · rfl
  · exfalso
    obtain ⟨ns, hb, _⟩ := h.base
    by_cases h0 : p.n = 0
    · unfold nodeT at hi
      rw [h0] at hi
      cases hi
    · obtain ⟨j, hj⟩ := (rep_node h hp h0).2 ⟨x, hx, hc⟩
      rw [hi] at hj
      cases hj
theorem rep_inside (h : Rep T L) (p : Pf) : insT T p = L.any (fun x => pins p x.p) := by
  by_cases hp : psane p = true
  · obtain ⟨n0, n1⟩ := psane_bd hp
    have hw := wid_wd p.a.v6
    have ha : atT T p = nodeT T p := by unfold atT nodeT; rw [if_pos hp]
    unfold insT
    rw [ha]
    cases hi : nodeT T p with
    | none =>
      have hu := rep_under_none h hp hi
      simp only
      symm
      rw [List.any_eq_false]
      intro x hx hc
      unfold pins at hc
      simp only [Bool.and_eq_true] at hc
      have : x ∈ L.filter (fun x => pcov p x.p) := List.mem_filter.2 ⟨hx, hc.1⟩
      rw [hu] at this
      cases this
    | some i =>
      simp only
      rw [Bool.eq_iff_iff, decide_eq_true_eq, List.any_eq_true]
      constructor
      · intro hk
        have hkid : ∃ d : Int, (d = 0 ∨ d = 1) ∧ kid (T.ar.getD i nd0) d ≠ 0 := by
          rcases Nat.eq_zero_or_pos (T.ar.getD i nd0).k0 with e | e
          · rcases Nat.eq_zero_or_pos (T.ar.getD i nd0).k1 with e' | e'
            · exact absurd ⟨e, e'⟩ hk
            · exact ⟨1, .inr rfl, by show (T.ar.getD i nd0).k1 ≠ 0; omega⟩
          · exact ⟨0, .inl rfl, by show (T.ar.getD i nd0).k0 ≠ 0; omega⟩
        obtain ⟨d, hd, hkd⟩ := hkid
        obtain ⟨k1, k2, k3, k4, k5, k6⟩ := kid_child hp hi (deep_of h) d hd hkd
        obtain ⟨x, hx, hc⟩ := (rep_node h k3 (by omega)).1 ⟨_, k4⟩
        refine ⟨x, hx, ?_⟩
        have := ((pcov_iff _ _).1 hc).2.2.1
        unfold pins
        simp only [Bool.and_eq_true, decide_eq_true_eq]
        exact ⟨cov_trans (cov_child hp k1 d) hc, by omega⟩
      · rintro ⟨x, hx, hc⟩ hk
        unfold pins at hc
        simp only [Bool.and_eq_true, decide_eq_true_eq] at hc
        have hxs := h.srt.1 x hx
        have hlt : p.n < wid p.a.v6 := by
          have := psane_bd hxs
          have v6 := ((pcov_iff _ _).1 hc.1).2.2.2.1
          rw [v6]
          omega
        rcases (cov_split hp hlt hxs).1 hc.1 with e | e | e
        · rw [e] at hc
          omega
        · have := kid_none h hp hlt hi 0 (.inl rfl) hk.1 x hx
          rw [e] at this
          cases this
        · have := kid_none h hp hlt hi 1 (.inr rfl) hk.2 x hx
          rw [e] at this
          cases this
  · unfold insT atT
    rw [if_neg hp]
    simp only
    symm
    rw [List.any_eq_false]
    intro x hx hc
    unfold pins at hc
    simp only [Bool.and_eq_true] at hc
    exact hp ((pcov_iff _ _).1 hc.1).1
end

end Go.Proofs.YtcbfppangiopeaaGreat

namespace Go.Proofs.YtcbfppangiopeaaGreat
open Go.RowKit

/-- Digits that a prefix has in common with the one ahead. -/
def comm : List Pr → Pf → Int
  | [], _ => 0
  | a :: _, x => min (min a.p.n x.n) (commonv a.p.a x.a)
/-- Two, and of each one the digits that it does not have in common with the one ahead (the last one first). -/
def nodesR : List Pr → Int
  | [] => 2
  | x :: r => nodesR r + x.p.n - comm r x.p
def nodesL (l : List Pr) : Int := nodesR l.reverse

theorem covn {q p : Pf} (h : pcov q p = true) : q.n ≤ p.n ∧ q.a.v6 = p.a.v6 := ⟨((pcov_iff _ _).1 h).2.2.1, ((pcov_iff _ _).1 h).2.2.2.1⟩
/-- What lies between two that are covered is covered. -/
theorem cov_between {q x y z : Pf} (hq : psane q = true) (hy : psane y = true) (h1 : pcov q x = true) (h2 : pcov q z = true) (hxy : pcmp x y ≤ 0) (hyz : pcmp y z < 0) : pcov q y = true := by
  obtain ⟨n1, v1⟩ := covn h1
  obtain ⟨n2, v2⟩ := covn h2
  have hc1 := (pcmp_le x y).1 hxy
  have hc2 := (pcmp_le y z).1 (by omega)
  have hv : y.a.v6 = q.a.v6 := by
    cases hvy : y.a.v6 <;> cases hvq : q.a.v6
    · rfl
    · exfalso
      have hx6 : x.a.v6 = true := by rw [← v1]; exact hvq
      have := cmp_kind x.a y.a (by rw [hx6, hvy]; simp)
      rw [hvy] at this
      simp at this
      omega
    · exfalso
      have hz6 : z.a.v6 = false := by rw [← v2]; exact hvq
      have := cmp_kind y.a z.a (by rw [hz6, hvy]; simp)
      rw [hz6] at this
      simp at this
      omega
    · rfl
  have e1 := cmp_V x.a y.a (by rw [hv, ← v1])
  have e2 := cmp_V y.a z.a (by rw [hv, ← v2])
  have hV1 : V x.a ≤ V y.a := by
    rcases Nat.lt_or_ge (V y.a) (V x.a) with h | h
    · rw [if_neg (by omega), if_pos h] at e1
      omega
    · exact h
  have hV2 : V y.a ≤ V z.a := by
    rcases Nat.lt_or_ge (V z.a) (V y.a) with h | h
    · rw [if_neg (by omega), if_pos h] at e2
      omega
    · exact h
  have b1 := (con_between q x.a hq v1.symm).1 (pcov_con h1)
  have b2 := (con_between q z.a hq v2.symm).1 (pcov_con h2)
  have hcon : pcon q y.a = true := (con_between q y.a hq hv).2 ⟨by omega, by omega⟩
  have hn : q.n ≤ y.n := by
    rcases Int.lt_or_le y.n q.n with h | h
    · exfalso
      have hqa : norm q.a = q.a := ((psane_iff q).1 hq).1
      have hya : norm y.a = y.a := ((psane_iff y).1 hy).1
      have e3 := ((pcon_iff q y.a).1 hcon).2.2
      have e4 := ((psane_iff y).1 hy).2.2.2
      have e5 := ((psane_iff q).1 hq).2.2.2
      have hVV : V y.a = V q.a := by
        apply Nat.eq_of_testBit_eq
        intro j
        by_cases hj : 128 ≤ (j : Int) + q.n
        · exact e3 j hj
        · exact (e4 j (by omega)).trans (e5 j (by omega)).symm
      have hx0 : V x.a = V y.a := by omega
      have hcx : cmpv x.a y.a = 0 := by rw [e1, if_neg (by omega), if_neg (by omega)]
      rcases hc1 with h3 | ⟨_, h3⟩
      · omega
      · omega
    · exact h
  unfold pcov
  simp only [Bool.and_eq_true, decide_eq_true_eq]
  exact ⟨⟨hy, hn⟩, hcon⟩
/-- New nodes of x behind r. -/
def newN (r : List Pr) (x : Pf) : List Pf := (List.range (x.n - comm r x).toNat).map (fun j => pof x.a (((comm r x).toNat + 1 + j : Nat) : Int))
theorem comm_bd {r : List Pr} {x : Pf} (hr : ∀ y ∈ r, psane y.p = true) (hx : psane x = true) : 0 ≤ comm r x ∧ comm r x ≤ x.n := by
  have hb := psane_bd hx
  cases r with
  | nil => simp only [comm]; omega
  | cons a r =>
    have ha := psane_bd (hr a (List.mem_cons_self ..))
    have hc : 0 ≤ commonv a.p.a x.a := by
      by_cases hv : a.p.a.v6 = x.a.v6
      · obtain ⟨k, hk, _⟩ := common_spec a.p.a x.a hv
        omega
      · rw [common_kind _ _ hv]
        exact Int.le_refl _
    simp only [comm]
    omega
theorem mem_new {r : List Pr} {x : Pf} (hr : ∀ y ∈ r, psane y.p = true) (hx : psane x = true) (q : Pf) : q ∈ newN r x ↔ ∃ m : Nat, comm r x < (m : Int) ∧ (m : Int) ≤ x.n ∧ q = pof x.a m := by
  have hb := comm_bd hr hx
  unfold newN
  rw [List.mem_map]
  constructor
  · rintro ⟨j, hj, rfl⟩
    rw [List.mem_range] at hj
    exact ⟨(comm r x).toNat + 1 + j, by omega, by omega, rfl⟩
  · rintro ⟨m, h1, h2, rfl⟩
    refine ⟨m - ((comm r x).toNat + 1), by rw [List.mem_range]; omega, ?_⟩
    congr 1
    omega
theorem new_nodup {r : List Pr} {x : Pf} (hr : ∀ y ∈ r, psane y.p = true) (hx : psane x = true) : (newN r x).Nodup := by
  have hb := comm_bd hr hx
  obtain ⟨n0, n1⟩ := psane_bd hx
  rw [wid_wd] at n1
  unfold newN
  rw [List.Nodup, List.pairwise_map]
  refine (List.pairwise_lt_range).imp_of_mem (fun {i j} hi hj hij e => ?_)
  rw [List.mem_range] at hi hj
  have := (pof_inj (a := x.a) (b := x.a) (by omega) (by omega) e).1
  omega
/-- The nodes that pairs need. -/
def Needs (l : List Pr) (q : Pf) : Prop := psane q = true ∧ (q.n = 0 ∨ ∃ x ∈ l, pcov q x.p = true)
theorem root_two (q : Pf) (hq : psane q = true) (h0 : q.n = 0) : q = pof ⟨0#64, 0#64, false⟩ 0 ∨ q = pof ⟨0#64, 0#64, true⟩ 0 := by
  have e := pof_self hq
  rw [h0] at e
  rw [← e]
  cases hv : q.a.v6
  · left
    exact (pof_eq_iff q.a ⟨0#64, 0#64, false⟩ 0 (Nat.zero_le _) hv).2 (fun j hj => by omega)
  · right
    exact (pof_eq_iff q.a ⟨0#64, 0#64, true⟩ 0 (Nat.zero_le _) hv).2 (fun j hj => by omega)
theorem canon : ∀ r : List Pr, Srt r.reverse → ∃ ns : List Pf, ns.Nodup ∧ (∀ q, q ∈ ns ↔ Needs r q) ∧ (ns.length : Int) = nodesR r := by
  intro r
  induction r with
  | nil =>
    intro _
    refine ⟨[pof ⟨0#64, 0#64, false⟩ 0, pof ⟨0#64, 0#64, true⟩ 0], ?_, fun q => ?_, rfl⟩
    · simp only [List.nodup_cons, List.mem_singleton, List.not_mem_nil, not_false_eq_true, List.nodup_nil, and_true]
      intro e
      have := (pof_inj (a := ⟨0#64, 0#64, false⟩) (b := ⟨0#64, 0#64, true⟩) (k := 0) (m := 0) (Nat.zero_le _) (Nat.zero_le _) e).2
      cases this
    · simp only [List.mem_cons, List.not_mem_nil, or_false]
      constructor
      · rintro (rfl | rfl)
        · exact ⟨psane_pof _ _, .inl (pof_nn _ 0 (Nat.zero_le _))⟩
        · exact ⟨psane_pof _ _, .inl (pof_nn _ 0 (Nat.zero_le _))⟩
      · rintro ⟨h1, h2⟩
        rcases h2 with h2 | ⟨x, hx, _⟩
        · exact root_two q h1 h2
        · cases hx
  | cons x r ih =>
    intro hs
    rw [List.reverse_cons] at hs
    have hsr : Srt r.reverse := ⟨fun y hy => hs.1 y (List.mem_append_left _ hy), (List.pairwise_append.1 hs.2).1⟩
    have hx : psane x.p = true := hs.1 x (List.mem_append_right _ (List.mem_singleton.2 rfl))
    have hlt : ∀ y ∈ r, pcmp y.p x.p < 0 := fun y hy => (List.pairwise_append.1 hs.2).2.2 y (List.mem_reverse.2 hy) x (List.mem_singleton.2 rfl)
    have hr : ∀ y ∈ r, psane y.p = true := fun y hy => hsr.1 y (List.mem_reverse.2 hy)
    obtain ⟨ns, h1, h2, h3⟩ := ih hsr
    have hb := comm_bd hr hx
    obtain ⟨n0, n1⟩ := psane_bd hx
    rw [wid_wd] at n1
    -- a new node covers none that is ahead
    have hnew : ∀ m : Nat, comm r x.p < (m : Int) → (m : Int) ≤ x.p.n → ∀ y ∈ r, pcov (pof x.p.a m) y.p = true → False := by
      intro m hm1 hm2 y hy hc
      cases r with
      | nil => cases hy
      | cons a r =>
        have hcx : pcov (pof x.p.a m) x.p = true := (cov_iff_pof hx).2 ⟨m, hm2, rfl⟩
        have hya : pcmp y.p a.p ≤ 0 := by
          rcases List.mem_cons.1 hy with rfl | hy
          · rw [pcmp_self]
            exact Int.le_refl _
          · have := hsr.2
            rw [List.reverse_cons] at this
            have := (List.pairwise_append.1 this).2.2 y (List.mem_reverse.2 hy) a (List.mem_singleton.2 rfl)
            omega
        have hca := cov_between (psane_pof _ _) (hr a (List.mem_cons_self ..)) hc hcx hya (hlt a (List.mem_cons_self ..))
        have hnn := pof_nn x.p.a m (by omega)
        obtain ⟨g1, g2⟩ := covn hca
        rw [pof_v6] at g2
        have hco := (pcov_of x.p a.p hx (hr a (List.mem_cons_self ..)) g2 m (by omega) hm2).1 hca
        have hsym : commonv x.p.a a.p.a = commonv a.p.a x.p.a := by
          obtain ⟨k, hk, k1, k2, k3⟩ := common_spec x.p.a a.p.a g2
          obtain ⟨k', hk', k1', k2', k3'⟩ := common_spec a.p.a x.p.a g2.symm
          rw [hk, hk']
          have hwd : wd x.p.a.v6 = wd a.p.a.v6 := by rw [g2]
          have := wd_le x.p.a.v6
          rcases Nat.lt_trichotomy k k' with h | h | h
          · exact absurd (k2' (127 - k) (by omega)).symm (k3 (by omega))
          · rw [h]
          · exact absurd (k2 (127 - k') (by omega)).symm (k3' (by omega))
        simp only [comm] at hm1
        omega
    refine ⟨ns ++ newN r x.p, ?_, fun q => ?_, ?_⟩
    · rw [List.nodup_append]
      refine ⟨h1, new_nodup hr hx, fun a ha b hb' e => ?_⟩
      subst e
      obtain ⟨m, m1, m2, rfl⟩ := (mem_new hr hx a).1 hb'
      obtain ⟨_, g2⟩ := (h2 _).1 ha
      rcases g2 with g2 | ⟨y, hy, hc⟩
      · rw [pof_nn _ _ (by omega)] at g2
        omega
      · exact hnew m m1 m2 y hy hc
    · rw [List.mem_append, h2, mem_new hr hx]
      constructor
      · rintro (⟨g1, g2⟩ | ⟨m, m1, m2, rfl⟩)
        · refine ⟨g1, ?_⟩
          rcases g2 with g2 | ⟨y, hy, hc⟩
          · exact .inl g2
          · exact .inr ⟨y, List.mem_cons_of_mem _ hy, hc⟩
        · exact ⟨psane_pof _ _, .inr ⟨x, List.mem_cons_self .., (cov_iff_pof hx).2 ⟨m, m2, rfl⟩⟩⟩
      · rintro ⟨g1, g2⟩
        rcases g2 with g2 | ⟨y, hy, hc⟩
        · exact .inl ⟨g1, .inl g2⟩
        · rcases List.mem_cons.1 hy with rfl | hy
          · obtain ⟨m, m1, rfl⟩ := (cov_iff_pof hx).1 hc
            by_cases hm : comm r y.p < (m : Int)
            · exact .inr ⟨m, hm, m1, rfl⟩
            · left
              refine ⟨g1, ?_⟩
              by_cases hm0 : m = 0
              · subst hm0
                exact .inl (pof_nn _ 0 (Nat.zero_le _))
              · cases r with
                | nil => simp only [comm] at hm; omega
                | cons a r =>
                  right
                  refine ⟨a, List.mem_cons_self .., ?_⟩
                  simp only [comm] at hm
                  have hv : a.p.a.v6 = y.p.a.v6 := by
                    by_cases hv : a.p.a.v6 = y.p.a.v6
                    · exact hv
                    · rw [common_kind _ _ hv] at hm
                      omega
                  have ha := hr a (List.mem_cons_self ..)
                  have hc1 := (pcov_of a.p y.p ha hx hv m (by omega) (by omega)).2 ⟨by omega, by omega⟩
                  have e1 := (con_iff_pof _ _).1 (pcov_con hc1)
                  have hna := psane_bd ha
                  rw [wid_wd] at hna
                  rw [pof_nn _ _ (by omega)] at e1
                  rw [e1]
                  exact (cov_iff_pof ha).2 ⟨m, by omega, rfl⟩
          · exact .inl ⟨g1, .inr ⟨y, hy, hc⟩⟩
    · rw [List.length_append]
      simp only [nodesR]
      have : (newN r x.p).length = (x.p.n - comm r x.p).toNat := by simp [newN]
      omega
/-- How many nodes a tree has. -/
theorem rep_nodes {T : Tr} {L : List Pr} (h : Rep T L) {ns : List Pf} (hb : Base T ns) (hn : ∀ q ∈ ns, q.n = 0 ∨ ∃ x ∈ L, pcov q x.p = true) : (ns.length : Int) = nodesL L := by
  obtain ⟨cs, c1, c2, c3⟩ := canon L.reverse (by rw [List.reverse_reverse]; exact h.srt)
  unfold nodesL
  rw [← c3]
  have hmem : ∀ q, q ∈ ns ↔ q ∈ cs := by
    intro q
    rw [c2]
    constructor
    · intro hq
      refine ⟨((hb.key q).1 hq).1, ?_⟩
      rcases hn q hq with e | ⟨x, hx, hc⟩
      · exact .inl e
      · exact .inr ⟨x, List.mem_reverse.2 hx, hc⟩
    · rintro ⟨h1, h2⟩
      refine (hb.key q).2 ⟨h1, ?_⟩
      rcases h2 with h2 | ⟨x, hx, hc⟩
      · unfold nodeT
        rw [h2]
        rfl
      · by_cases h0 : q.n = 0
        · unfold nodeT
          rw [h0]
          rfl
        · exact Option.isSome_iff_exists.2 ((rep_node h h1 h0).2 ⟨x, List.mem_reverse.1 hx, hc⟩)
  have l1 := nodup_le hb.nd (fun x hx => (hmem x).1 hx)
  have l2 := nodup_le c1 (fun x hx => (hmem x).2 hx)
  omega

end Go.Proofs.YtcbfppangiopeaaGreat

namespace Go.Proofs.YtcbfppangiopeaaGreat
open Go.RowKit
set_option maxRecDepth 100000

/-- Kids are nodes. -/
theorem base_wf {T : Tr} {ns : List Pf} (h : Base T ns) (hl : T.ar.length ≤ 1000000000) : Wf T := by
  have hfl := h.len
  refine ⟨h.len2, hl, fun x hx => ?_, fun i hi => ?_, by omega⟩
  · obtain ⟨i, hi, rfl⟩ := List.getElem_of_mem hx
    have e0 : T.ar.getD i nd0 = T.ar[i] := by simp [hi]
    have hmem := h.perm.mem_iff.2 (List.mem_range.2 hi)
    have h2 := h.len2
    have key : ∀ d : Int, (d = 0 ∨ d = 1) → kid T.ar[i] d < T.ar.length := by
      intro d hd
      by_cases hk : kid T.ar[i] d = 0
      · omega
      · rw [← e0] at hk ⊢
        rcases List.mem_append.1 hmem with hm | hm
        · obtain ⟨q, hq, e⟩ := List.mem_map.1 hm
          obtain ⟨q1, q2⟩ := (h.key q).1 hq
          obtain ⟨j, hj⟩ := Option.isSome_iff_exists.1 q2
          rw [hj] at e
          simp only [Option.getD_some] at e
          subst e
          obtain ⟨k1, k2, k3, k4, k5, k6⟩ := kid_child q1 hj h.deep d hd hk
          obtain ⟨m, m1, m2, m3⟩ := nodeT_eq k3
          have : nodeAt T.ar (pchild q d).1.a m = some (kid (T.ar.getD j nd0) d) := by
            rw [show m = (pchild q d).1.n.toNat from by omega]
            exact k4
          exact h.lt m1 this
        · rw [h.zero i hm, kid_nd0] at hk
          exact absurd rfl hk
    exact ⟨key 0 (.inl rfl), key 1 (.inr rfl)⟩
  · have := h.perm.mem_iff.1 (List.mem_append_right _ hi)
    simpa using this
/-- A tree with these pairs lies at block t; so many nodes there were at most. -/
def Trie (w : World) (t : Nat) (S : Nat → Prop) (L : List Pr) (most : Nat) : Prop := ∃ T, TrS w t S T ∧ Rep T L ∧ T.ar.length = most ∧ most ≤ 1000000000
theorem Trie.keep {w w' : World} {t : Nat} {S : Nat → Prop} {L : List Pr} {most : Nat} (h : Trie w t S L most) (hb : Below w.heap.size w w') : Trie w' t S L most := by
  obtain ⟨T, h1, h2⟩ := h
  exact ⟨T, h1.keep hb, h2⟩
theorem Trie.lt {w : World} {t : Nat} {S : Nat → Prop} {L : List Pr} {most : Nat} (h : Trie w t S L most) : ∀ b, S b → b < w.heap.size := by
  obtain ⟨T, h1, h2⟩ := h
  exact h1.lt
theorem Trie.srt {w : World} {t : Nat} {S : Nat → Prop} {L : List Pr} {most : Nat} (h : Trie w t S L most) : Srt L := by
  obtain ⟨T, h1, h2, h3⟩ := h
  exact h2.srt
theorem rep_wf {T : Tr} {L : List Pr} (h : Rep T L) (hl : T.ar.length ≤ 1000000000) : Wf T := by
  obtain ⟨ns, hb, _⟩ := h.base
  exact base_wf hb hl
theorem rep_fr {T : Tr} {L : List Pr} (h : Rep T L) : (T.ar.length : Int) - T.fr.length = nodesL L := by
  obtain ⟨ns, hb, hn⟩ := h.base
  have := rep_nodes h hb hn
  have := hb.len
  omega
theorem rep_len {T : Tr} {L : List Pr} (h : Rep T L) : L.length ≤ T.ar.length := by
  obtain ⟨ns, hb, hn⟩ := h.base
  have h1 : (L.map (·.p)).Nodup := by
    rw [List.Nodup, List.pairwise_map]
    exact h.srt.2.imp (fun {x y} hxy e => by rw [e, pcmp_self] at hxy; omega)
  have h2 := nodup_le (m := ns) h1 (fun q hq => by
    obtain ⟨x, hx, rfl⟩ := List.mem_map.1 hq
    refine (hb.key _).2 ⟨h.srt.1 x hx, ?_⟩
    have hv := h.val x.p (h.srt.1 x hx)
    rw [lk_some h.srt hx] at hv
    cases hn : nodeT T x.p with
    | none => unfold vf at hv; rw [hn] at hv; cases hv
    | some j => rfl)
  rw [List.length_map] at h2
  have := hb.len
  omega
theorem rep_new : Rep newT [] := by
  have hroot : ∀ a k, k ≠ 0 → nodeAt newT.ar a k = none := by
    intro a k hk
    have h1 : nodeAt newT.ar a 1 = none := by
      show (some (rootN a.v6)).bind _ = none
      simp only [Option.bind_some]
      have : newT.ar.getD (rootN a.v6) nd0 = nd0 := by cases a.v6 <;> rfl
      rw [this, kid_nd0]
      rfl
    have := nodeAt_none h1 (k - 1)
    rw [show 1 + (k - 1) = k from by omega] at this
    exact this
  have hg : ∀ i, newT.ar.getD i nd0 = nd0 := by
    intro i
    match i with
    | 0 => rfl
    | 1 => rfl
    | n + 2 => rfl
  have hn0 : ∀ q : Pf, psane q = true → q.n ≠ 0 → nodeT newT q = none := fun q hq h0 => by
    have := psane_bd hq
    exact hroot _ _ (by omega)
  refine ⟨⟨[pof ⟨0#64, 0#64, false⟩ 0, pof ⟨0#64, 0#64, true⟩ 0], ⟨Nat.le_refl _, ?_, fun q => ?_, ?_, ?_, ?_, ?_⟩, ?_⟩, srt_nil, ?_, rfl⟩
  · simp only [List.nodup_cons, List.mem_singleton, List.not_mem_nil, not_false_eq_true, List.nodup_nil, and_true]
    intro e
    have := (pof_inj (a := ⟨0#64, 0#64, false⟩) (b := ⟨0#64, 0#64, true⟩) (k := 0) (m := 0) (Nat.zero_le _) (Nat.zero_le _) e).2
    cases this
  · simp only [List.mem_cons, List.not_mem_nil, or_false]
    constructor
    · rintro (rfl | rfl)
      · exact ⟨psane_pof _ _, (congrArg Option.isSome (nodeT_pof newT ⟨0#64, 0#64, false⟩ 0 (Nat.zero_le _))).trans rfl⟩
      · exact ⟨psane_pof _ _, (congrArg Option.isSome (nodeT_pof newT ⟨0#64, 0#64, true⟩ 0 (Nat.zero_le _))).trans rfl⟩
    · rintro ⟨h1, h2⟩
      by_cases h0 : q.n = 0
      · exact root_two q h1 h0
      · rw [hn0 q h1 h0] at h2
        cases h2
  · show ([(nodeT newT (pof ⟨0#64, 0#64, false⟩ ((0 : Nat) : Int))).getD 0, (nodeT newT (pof ⟨0#64, 0#64, true⟩ ((0 : Nat) : Int))).getD 0] ++ []).Perm _
    rw [nodeT_pof newT _ 0 (Nat.zero_le _), nodeT_pof newT _ 0 (Nat.zero_le _)]
    exact List.Perm.refl _
  · intro i hi
    cases hi
  · intro i _
    rw [hg]
    rfl
  · intro a i _
    rw [hg]
    exact ⟨rfl, rfl⟩
  · intro q hq
    left
    simp only [List.mem_cons, List.not_mem_nil, or_false] at hq
    rcases hq with rfl | rfl
    · exact pof_nn _ 0 (Nat.zero_le _)
    · exact pof_nn _ 0 (Nat.zero_le _)
  · intro q hq
    unfold vf
    cases nodeT newT q with
    | none => rfl
    | some i =>
      simp only [Option.bind_some, hg]
      rfl

/-- What a call that changes a tree leaves. -/
def TriePost (t : Nat) (S : Nat → Prop) (w : World) (L : List Pr) (most : Nat) (v : Value) (e : Ending) (w' : World) : Prop := e = .returned v ∧ ∃ S', Trie w' t S' L most ∧ Frm S w w' ∧ Sub S S' w.heap.size
def putE (p : Pf) : Int := if psane p = true then 0 else 1
def putQ (p : Pf) (v : Int) (L : List Pr) : List Pr := if psane p = true then putL p v L else L
def putM (p : Pf) (v : Int) (L : List Pr) (most : Nat) : Nat := if psane p = true then max most (nodesL (putL p v L)).toNat else most
def delE (p : Pf) (L : List Pr) : Int := if psane p = true then (if (lk L p).isSome = true then 0 else 2) else 1
def delQ (p : Pf) (L : List Pr) : List Pr := if psane p = true then delL p L else L
def getQ (p : Pf) (L : List Pr) : Option Int := if psane p = true then lk L p else none

section
variable {w : World} {t : Nat} {S : Nat → Prop} {L : List Pr} {most : Nat}
theorem trie_new (w : World) : Calls Tryz.prog 15 #[] w fun e w' => ∃ t S, e = .returned (.pointer (some ⟨t, 0, none⟩)) ∧ Trie w' t S [] 2 ∧ Below w.heap.size w w' ∧ ∀ b, S b → w.heap.size ≤ b :=
  (new_any w).mono fun _ _ ⟨t, S, he, h1, h2, h3⟩ => ⟨t, S, he, ⟨newT, h1, rep_new, rfl, by omega⟩, h2, h3⟩
theorem trie_put (h : Trie w t S L most) (hb : most + 128 ≤ 1000000000) (p : Pf) (v : Int) : Calls Tryz.prog 38 #[.pointer (some ⟨t, 0, none⟩), .agg #[.int .u64 (u p.a.hi), .int .u64 (u p.a.lo), .bool p.a.v6, .int .i64 p.n], .int .i64 v] w (fun e w' => TriePost t S w (putQ p v L) (putM p v L most) (.int .i64 (putE p)) e w' ∧ putM p v L most ≤ most + 128) := by
  obtain ⟨T, h1, h2, h3, h4⟩ := h
  have hW := rep_wf h2 (by omega)
  have hlen := rep_len h2
  cases hp : psane p
  · refine (put_no w t S T h1 hW p v hp).mono fun e w' ⟨he, hb⟩ => ?_
    unfold putQ putM putE
    simp only [hp]
    exact ⟨⟨he, S, ⟨T, h1.keep hb, h2, h3, h4⟩, frm_of_below hb, Sub.refl _ _⟩, by simp⟩
  · have hc := h2.cnt
    refine (put_any w t S T h1 hW (by omega) (by omega) (by omega) p v hp).mono ?_
    rintro e w' ⟨m, i, hi, hm, hm2, he, S', g1, g2, g3⟩
    obtain ⟨r1, ns', r2, r3⟩ := rep_put h2 hp v hi hm hm2
    have hi' := nodeAt_lt hW p.a m i hi
    obtain ⟨n0, n1⟩ := psane_bd hp
    have n2 := (wid_bd p.a.v6).2
    obtain ⟨-, -, g4, -⟩ := grow_wf p.a (p.n.toNat - m) T i m hW hi' (by omega)
    have hfr := rep_fr r1
    have hbl := r2.len
    have hpl : (putN (growF p.a (p.n.toNat - m) T i m).1 (growF p.a (p.n.toNat - m) T i m).2 v).ar.length = (growF p.a (p.n.toNat - m) T i m).1.ar.length := by simp [putN]
    unfold putQ putM putE
    simp only [hp, if_true]
    refine ⟨⟨he, S', ⟨_, g1, r1, ?_, ?_⟩, g2, g3⟩, ?_⟩
    · omega
    · omega
    · omega
theorem trie_del (h : Trie w t S L most) (hb : most + 128 ≤ 1000000000) (p : Pf) : Calls Tryz.prog 45 #[.pointer (some ⟨t, 0, none⟩), .agg #[.int .u64 (u p.a.hi), .int .u64 (u p.a.lo), .bool p.a.v6, .int .i64 p.n]] w (TriePost t S w (delQ p L) most (.int .i64 (delE p L))) := by
  obtain ⟨T, h1, h2, h3, h4⟩ := h
  have hW := rep_wf h2 (by omega)
  have hlen := rep_len h2
  have hfr : T.fr.length ≤ T.ar.length := by
    obtain ⟨ns, hb, _⟩ := h2.base
    have := hb.len
    omega
  have hg := rep_get h2 p
  cases hp : psane p
  · refine (del_no w t p hp).mono fun e w' ⟨he, hb⟩ => ?_
    unfold delQ delE
    simp only [hp]
    exact ⟨he, S, ⟨T, h1.keep hb, h2, h3, h4⟩, frm_of_below hb, Sub.refl _ _⟩
  · rw [if_pos hp] at hg
    unfold delQ delE
    simp only [hp, if_true]
    cases hl : lk L p with
    | none =>
      rw [hl] at hg
      refine (del_absent w t S T h1 hW p hp hg).mono fun e w' ⟨he, hb⟩ => ?_
      rw [del_none hl]
      exact ⟨he, S, ⟨T, h1.keep hb, h2, h3, h4⟩, frm_of_below hb, Sub.refl _ _⟩
    | some v =>
      rw [hl] at hg
      unfold getT at hg
      cases ha : atT T p with
      | none => rw [ha] at hg; cases hg
      | some i =>
        rw [ha] at hg
        simp only [Option.bind_some] at hg
        have hth : (T.ar.getD i nd0).th = true := by
          cases hx : (T.ar.getD i nd0).th
          · rw [hx] at hg
            cases hg
          · rfl
        have hc := h2.cnt
        obtain ⟨r1, r2⟩ := rep_del h2 hp ha hth
        refine (del_any w t S T h1 hW (by omega) (by omega) (by omega) p hp i ha hth).mono ?_
        rintro e w' ⟨he, S', g1, g2, g3⟩
        exact ⟨he, S', ⟨_, g1, r1, by omega, h4⟩, g2, g3⟩
theorem trie_get (h : Trie w t S L most) (p : Pf) : Calls Tryz.prog 36 #[.pointer (some ⟨t, 0, none⟩), .agg #[.int .u64 (u p.a.hi), .int .u64 (u p.a.lo), .bool p.a.v6, .int .i64 p.n]] w fun e w' => e = .returned (.tuple #[.int .i64 ((getQ p L).getD 0), .bool (getQ p L).isSome]) ∧ Below w.heap.size w w' := by
  obtain ⟨T, ⟨vA, vF, rfl, h1⟩, h2, h3, h4⟩ := h
  have hg := rep_get h2 p
  have := get_any w t vA vF T h1 (rep_wf h2 (by omega)) p
  rw [hg] at this
  exact this
theorem trie_inside (h : Trie w t S L most) (p : Pf) : Calls Tryz.prog 58 #[.pointer (some ⟨t, 0, none⟩), .agg #[.int .u64 (u p.a.hi), .int .u64 (u p.a.lo), .bool p.a.v6, .int .i64 p.n]] w fun e w' => e = .returned (.bool (L.any fun x => pins p x.p)) ∧ Below w.heap.size w w' := by
  obtain ⟨T, ⟨vA, vF, rfl, h1⟩, h2, h3, h4⟩ := h
  have := inside_any w t vA vF T h1 (rep_wf h2 (by omega)) p
  rw [rep_inside h2 p] at this
  exact this
theorem trie_len (h : Trie w t S L most) : Calls Tryz.prog 54 #[.pointer (some ⟨t, 0, none⟩)] w fun e w' => e = .returned (.int .i64 (L.length : Int)) ∧ w = w' := by
  obtain ⟨T, ⟨vA, vF, rfl, h1⟩, h2, h3, h4⟩ := h
  have := len_any w t vA vF T h1
  rw [h2.cnt] at this
  exact this
theorem trie_slots (h : Trie w t S L most) : Calls Tryz.prog 56 #[.pointer (some ⟨t, 0, none⟩)] w fun e w' => e = .returned (.int .i64 (most : Int)) ∧ w = w' := by
  obtain ⟨T, ⟨vA, vF, rfl, h1⟩, h2, rfl, h4⟩ := h
  exact slots_any w t vA vF T h1 (rep_wf h2 (by omega)).1
theorem trie_nodes (h : Trie w t S L most) : Calls Tryz.prog 55 #[.pointer (some ⟨t, 0, none⟩)] w fun e w' => e = .returned (.int .i64 (nodesL L)) ∧ Below w.heap.size w w' := by
  obtain ⟨T, ⟨vA, vF, rfl, h1⟩, h2, rfl, h4⟩ := h
  have hW := rep_wf h2 (by omega)
  have := nodes_any w t vA vF T h1 hW.1 hW.2.2.2.2 (by omega)
  rw [rep_fr h2] at this
  exact this.mono fun e w' ⟨he, n, hn⟩ => ⟨he, by rw [hn]; exact below_drewN (Below.refl _ _) n⟩
theorem trie_above (h : Trie w t S L most) (p : Pf) : Calls Tryz.prog 52 #[.pointer (some ⟨t, 0, none⟩), .agg #[.int .u64 (u p.a.hi), .int .u64 (u p.a.lo), .bool p.a.v6, .int .i64 p.n]] w (ListPost w (L.filter fun x => pcov x.p p)) := by
  obtain ⟨T, ⟨vA, vF, rfl, h1⟩, h2, rfl, h4⟩ := h
  have hW := rep_wf h2 (by omega)
  cases hp : psane p
  · have e : L.filter (fun x => pcov x.p p) = [] := filter_none fun x _ => by
      cases hc : pcov x.p p
      · rfl
      · have := ((pcov_iff _ _).1 hc).2.1
        rw [hp] at this
        cases this
    rw [e]
    exact above_no w t vA vF T h1 hW p hp
  · refine (above_any w t vA vF T h1 hW p hp).mono ?_
    rintro e w' ⟨m, hm, hl⟩
    rw [rep_above h2 hp hm] at hl
    exact hl
theorem trie_under (h : Trie w t S L most) (p : Pf) : Calls Tryz.prog 44 #[.pointer (some ⟨t, 0, none⟩), .agg #[.int .u64 (u p.a.hi), .int .u64 (u p.a.lo), .bool p.a.v6, .int .i64 p.n]] w (ListPost w (L.filter fun x => pcov p x.p)) := by
  obtain ⟨T, ⟨vA, vF, rfl, h1⟩, h2, rfl, h4⟩ := h
  have hW := rep_wf h2 (by omega)
  have hlen := rep_len h2
  have key : ∀ i, atT T p = some i → belowF T (wd p.a.v6 - p.n.toNat + 1) p i = L.filter (fun x => pcov p x.p) := by
    intro i hi
    unfold atT at hi
    split at hi
    · rename_i hp
      exact rep_below h2 _ p i hp hi (by omega)
    · cases hi
  have hu := under_any w t vA vF T h1 hW (deep_of h2) p (fun i hi => by
    rw [key i hi]
    have := List.length_filter_le (fun x : Pr => pcov p x.p) L
    omega)
  refine hu.mono fun e w' hh => ?_
  unfold UnderPost at hh
  cases ha : atT T p with
  | none =>
    rw [ha] at hh
    have e : L.filter (fun x => pcov p x.p) = [] := by
      cases hp : psane p
      · exact filter_none fun x _ => by
          cases hc : pcov p x.p
          · rfl
          · have := ((pcov_iff _ _).1 hc).1
            rw [hp] at this
            cases this
      · refine rep_under_none h2 hp ?_
        unfold atT at ha
        rw [if_pos hp] at ha
        exact ha
    rw [e]
    exact hh
  | some i =>
    rw [ha] at hh
    simp only [key i ha] at hh
    exact hh
end

end Go.Proofs.YtcbfppangiopeaaGreat

namespace Go.Proofs.YtcbfppangiopeaaGreat
open Go.RowKit
set_option maxRecDepth 100000

/-- The longest one that contains an address. -/
def longL (L : List Pr) (a : Ad) : Option Pr := (L.filter fun x => pcon x.p a).getLast?
theorem pof_full (a : Ad) (j : Nat) (hj : j ≤ wd a.v6) : pof (pof a (wid a.v6)).a j = pof a j := by
  rw [wid_wd]
  exact (pof_eq_iff _ _ j (by rw [pof_v6]; exact hj) (pof_v6 _ _)).2 (fun i hi => pof_bit a (wd a.v6) i (Nat.le_refl _) (by omega))
theorem cov_full {q : Pf} (hq : psane q = true) (a : Ad) : pcov q (pof a (wid a.v6)) = pcon q a := by
  rw [Bool.eq_iff_iff, cov_iff_pof (psane_pof _ _)]
  have hn : (pof a (wid a.v6)).n = wid a.v6 := by rw [wid_wd]; exact pof_nn a _ (Nat.le_refl _)
  rw [hn, wid_wd]
  constructor
  · rintro ⟨m, hm, e⟩
    rw [← wid_wd, pof_full a m (by omega)] at e
    rw [e]
    exact con_pof a m
  · intro h
    obtain ⟨-, v6, -⟩ := (pcon_iff q a).1 h
    obtain ⟨k, k1, k2, k3⟩ := nodeT_eq hq
    rw [← v6] at k1
    refine ⟨k, by omega, ?_⟩
    rw [← wid_wd, pof_full a k k1, ← k3]
    exact ((con_iff_pof q a).1 h).symm
theorem longK_above (T : Tr) (a : Ad) : ∀ k : Nat, k ≤ wd a.v6 + 1 → longK T (pof a (wid a.v6)).a a k = (aboveK T (pof a (wid a.v6)) k).getLast? := by
  intro k
  induction k with
  | zero => intro _; rfl
  | succ k ih =>
    intro hk
    simp only [longK, aboveK, ih (by omega)]
    cases nodeAt T.ar (pof a (wid a.v6)).a k with
    | none => simp
    | some i =>
      simp only
      by_cases ht : (T.ar.getD i nd0).th = true
      · rw [if_pos ht, if_pos ht, pof_full a k (by omega)]
        simp
      · rw [if_neg ht, if_neg ht]
        simp
theorem trie_longest {w : World} {t : Nat} {S : Nat → Prop} {L : List Pr} {most : Nat} (h : Trie w t S L most) (a : Ad) :
    Calls Tryz.prog 42 #[.pointer (some ⟨t, 0, none⟩), .agg #[.int .u64 (u a.hi), .int .u64 (u a.lo), .bool a.v6]] w fun e w' => e = .returned (.tuple #[.agg #[.int .u64 (u ((longL L a).getD nilPr).p.a.hi), .int .u64 (u ((longL L a).getD nilPr).p.a.lo), .bool ((longL L a).getD nilPr).p.a.v6, .int .i64 ((longL L a).getD nilPr).p.n, .int .i64 ((longL L a).getD nilPr).v], .bool (longL L a).isSome]) ∧ Below w.heap.size w w' := by
  obtain ⟨T, ⟨vA, vF, rfl, h1⟩, h2, rfl, h4⟩ := h
  have hW := rep_wf h2 (by omega)
  refine (longest_any w t vA vF T h1 hW a).mono ?_
  rintro e w' ⟨m, hm, he, hb⟩
  have hn : (pof a (wid a.v6)).n = wid a.v6 := by rw [wid_wd]; exact pof_nn a _ (Nat.le_refl _)
  have hm1 := hm.1
  rw [hn, wid_wd] at hm1
  have e1 := rep_above h2 (psane_pof _ _) hm
  rw [longK_above T a (m + 1) (by omega), e1] at he
  have e2 : L.filter (fun x => pcov x.p (pof a (wid a.v6))) = L.filter (fun x => pcon x.p a) := List.filter_congr fun x hx => cov_full (h2.srt.1 x hx) a
  rw [e2] at he
  exact ⟨he, hb⟩

/-- One thing that is done. -/
structure Ac where
  out : Bool
  p : Pf
  v : Int
def ac6 (x : Ac) : List Value := [.bool x.out, .int .u64 (u x.p.a.hi), .int .u64 (u x.p.a.lo), .bool x.p.a.v6, .int .i64 x.p.n, .int .i64 x.v]
def doQ (x : Ac) (L : List Pr) : List Pr := if x.out = true then delQ x.p L else putQ x.p x.v L
def doM (x : Ac) (L : List Pr) (most : Nat) : Nat := if x.out = true then most else putM x.p x.v L most
def doE (x : Ac) (L : List Pr) : Int := if x.out = true then delE x.p L else putE x.p
end Go.Proofs.YtcbfppangiopeaaGreat

namespace Go.Proofs.YtcbfppangiopeaaGreat
open Go.RowKit

def exA (j : Nat) : Int := if j = 0 then 10 else 0
def exB (j : Nat) : Int := if j = 0 then 10 else if j = 1 then 1 else 0
def exC (j : Nat) : Int := if j = 0 then 11 else 0
def adA : Ad := ⟨720575940379279360#64, 0#64, false⟩
def adB' : Ad := ⟨720857415355990016#64, 0#64, false⟩
def adC : Ad := ⟨792633534417207296#64, 0#64, false⟩
theorem exA_from : fromv exA false = adA := by decide +kernel
theorem exB_from : fromv exB false = adB' := by decide +kernel
theorem exC_from : fromv exC false = adC := by decide +kernel
theorem exSib : (psib (pof adA 8)).2 = true ∧ psane (psib (pof adA 8)).1 = true ∧ (psib (pof adA 8)).1.n = 8 ∧ pfEq (psib (pof adA 8)).1 (pof adC 8) = true := by decide +kernel
theorem exCov : pcov (pof adA 8) (pof adB' 16) = true := by decide +kernel

end Go.Proofs.YtcbfppangiopeaaGreat

namespace Go.Proofs.YtcbfppangiopeaaGreat
open Go.RowKit
set_option maxRecDepth 100000

/-- Things that are done, as a slice says. -/
def RdA (w : World) (A : Option Addr) (ls : List Ac) : Prop :=
  ls ≠ [] → ∃ g off, A = some ⟨g, off, none⟩ ∧ g < w.heap.size ∧ ∀ i, (h : i < ls.length) → w.cell? ⟨g, off + i * 6, none⟩ = some (.bool ls[i].out) ∧ w.cell? ⟨g, off + i * 6 + 1, none⟩ = some (.int .u64 (u ls[i].p.a.hi)) ∧ w.cell? ⟨g, off + i * 6 + 2, none⟩ = some (.int .u64 (u ls[i].p.a.lo)) ∧ w.cell? ⟨g, off + i * 6 + 3, none⟩ = some (.bool ls[i].p.a.v6) ∧ w.cell? ⟨g, off + i * 6 + 4, none⟩ = some (.int .i64 ls[i].p.n) ∧ w.cell? ⟨g, off + i * 6 + 5, none⟩ = some (.int .i64 ls[i].v)
theorem RdA.keep {B : Nat} {w w' : World} {A : Option Addr} {ls : List Ac} (h : RdA w A ls) (hb : Below B w w') (hB : w.heap.size ≤ B) : RdA w' A ls := fun hn => by
  obtain ⟨g, off, e, hg, hc⟩ := h hn
  have hg' : g < B := Nat.lt_of_lt_of_le hg hB
  refine ⟨g, off, e, Nat.lt_of_lt_of_le hg hb.size, fun i hi => ?_⟩
  obtain ⟨c0, c1, c2, c3, c4, c5⟩ := hc i hi
  exact ⟨(hb.cell (p := ⟨g, off + i * 6, none⟩) hg').trans c0, (hb.cell (p := ⟨g, off + i * 6 + 1, none⟩) hg').trans c1, (hb.cell (p := ⟨g, off + i * 6 + 2, none⟩) hg').trans c2, (hb.cell (p := ⟨g, off + i * 6 + 3, none⟩) hg').trans c3, (hb.cell (p := ⟨g, off + i * 6 + 4, none⟩) hg').trans c4, (hb.cell (p := ⟨g, off + i * 6 + 5, none⟩) hg').trans c5⟩
/-- What is there behind the first k things. -/
def plays : List Ac → List Pr × Nat
  | [] => ([], 2)
  | x :: r => (doQ x (plays r).1, doM x (plays r).1 (plays r).2)
def playK (ls : List Ac) (k : Nat) : List Pr × Nat := plays (ls.take k).reverse
theorem playK_zero (ls : List Ac) : playK ls 0 = ([], 2) := rfl
theorem playK_succ (ls : List Ac) (k : Nat) (h : k < ls.length) : playK ls (k + 1) = (doQ ls[k] (playK ls k).1, doM ls[k] (playK ls k).1 (playK ls k).2) := by
  unfold playK
  rw [List.take_succ_eq_append_getElem h, List.reverse_append]
  rfl

theorem exP : (pof adA 8).n = 8 ∧ nodesL (putQ (pof adA 8) 7 []) = 10 ∧ putM (pof adA 8) 7 [] 2 = 10 ∧ putE (pof adA 8) = 0 ∧ delE (pof adA 8) (putQ (pof adA 8) 7 []) = 0 ∧ delQ (pof adA 8) (putQ (pof adA 8) 7 []) = [] ∧ longL (putQ (pof adA 8) 7 []) adA = some ⟨pof adA 8, 7⟩ ∧ nodesL [] = 2 := by decide +kernel

end Go.Proofs.YtcbfppangiopeaaGreat

namespace Go.Proofs.YtcbfppangiopeaaGreat
set_option maxRecDepth 100000
open Go.ChangeShapes Go.WideShapes Go.ChangeAt Go.RowKit Go.Joins Go.Deep

theorem add_plain' (g off j : Nat) : (⟨g, off, none⟩ : Addr).add j = ⟨g, off + j, none⟩ := by unfold Addr.add; split <;> simp_all
def nilAc : Ac := ⟨false, nilP, 0⟩
def pf4 (p : Pf) : List Value := [.int .u64 (u p.a.hi), .int .u64 (u p.a.lo), .bool p.a.v6, .int .i64 p.n]
/-- Prefixes that lie in memory, as a slice says. -/
def RdP (w : World) (A : Option Addr) (ls : List Pf) : Prop :=
  ls ≠ [] → ∃ g off, A = some ⟨g, off, none⟩ ∧ g < w.heap.size ∧ ∀ i, (h : i < ls.length) → w.cell? ⟨g, off + i * 4, none⟩ = some (.int .u64 (u ls[i].a.hi)) ∧ w.cell? ⟨g, off + i * 4 + 1, none⟩ = some (.int .u64 (u ls[i].a.lo)) ∧ w.cell? ⟨g, off + i * 4 + 2, none⟩ = some (.bool ls[i].a.v6) ∧ w.cell? ⟨g, off + i * 4 + 3, none⟩ = some (.int .i64 ls[i].n)
theorem pf_cells {H : Type} {enc : TypeId × Value → H} {W : World} {base n : Nat} {spare : Nat → Bool} {held : Bool} {cs : List Value} {x : DataW H × List MemPlace}
    (hl : cs.length = 4) (h : DataW.trod enc Tryz.prog W base spare held n 27 cs = some x) : ∃ r : Pf, cs = pf4 r := by
  match cs, hl with
  | [c0, c1, c2, c3], _ =>
  obtain ⟨y2, y3, n2, _, _, h2, h3⟩ := trod_struct2 Tryz.underlying27 h
  have k1 : Tryz.prog.cellsOf 3 = 1 := by kernel_rfl
  have k4 : Tryz.prog.cellsOf 25 = 3 := by kernel_rfl
  have g2 : DataW.trod enc Tryz.prog W base spare held n2 25 [c0, c1, c2] = some y2 := by simpa [k4] using h2
  have g3 : DataW.trod enc Tryz.prog W base spare held n2 3 [c3] = some y3 := by simpa [k1, k4] using h3
  obtain ⟨z0, z1, z2, m, hz, _, i0, i1, i2⟩ := trod_struct3 Tryz.underlying25 g2
  have k2 : Tryz.prog.cellsOf 23 = 1 := by kernel_rfl
  have k3 : Tryz.prog.cellsOf 4 = 1 := by kernel_rfl
  have j0 : DataW.trod enc Tryz.prog W base spare held m 23 [c0] = some z0 := by simpa [k2] using i0
  have j1 : DataW.trod enc Tryz.prog W base spare held m 23 [c1] = some z1 := by simpa [k2] using i1
  have j2 : DataW.trod enc Tryz.prog W base spare held m 4 [c2] = some z2 := by simpa [k3] using i2
  obtain ⟨x0, e0, _, w0⟩ := DataW.trod_int Tryz.underlying23 j0
  obtain ⟨x1, e1, _, w1⟩ := DataW.trod_int Tryz.underlying23 j1
  obtain ⟨x2, e2, _⟩ := DataW.trod_bool Tryz.underlying4 j2
  obtain ⟨x3, e3, _, w3⟩ := DataW.trod_int Tryz.underlying3 g3
  obtain ⟨lo0, hi0⟩ := bounds_u64 w0
  obtain ⟨lo1, hi1⟩ := bounds_u64 w1
  obtain ⟨a0, rfl⟩ := u_of x0 lo0 (by omega)
  obtain ⟨a1, rfl⟩ := u_of x1 lo1 (by omega)
  simp at e0 e1 e2 e3
  subst e0 e1 e2 e3
  exact ⟨⟨⟨a0, a1, x2⟩, x3⟩, rfl⟩
end Go.Proofs.YtcbfppangiopeaaGreat

namespace Go.Proofs.YtcbfppangiopeaaGreat
set_option maxRecDepth 100000
open Go.ChangeShapes Go.WideShapes Go.ChangeAt Go.RowKit Go.Joins Go.Deep

theorem ac_cells6 {H : Type} {enc : TypeId × Value → H} {W : World} {base n : Nat} {spare : Nat → Bool} {held : Bool} {cs : List Value} {x : DataW H × List MemPlace}
    (hl : cs.length = 6) (h : DataW.trod enc Tryz.prog W base spare held n 40 cs = some x) : ∃ r : Ac, cs = ac6 r := by
  match cs, hl with
  | [c, c0, c1, c2, c3, c4], _ =>
  obtain ⟨y, y0, y1, n, hx, _, h, h0, h1⟩ := trod_struct3 Tryz.underlying40 h
  have k0 : Tryz.prog.cellsOf 27 = 4 := by kernel_rfl
  have k1 : Tryz.prog.cellsOf 3 = 1 := by kernel_rfl
  have k3 : Tryz.prog.cellsOf 4 = 1 := by kernel_rfl
  have g : DataW.trod enc Tryz.prog W base spare held n 4 [c] = some y := by simpa [k3] using h
  have g0 : DataW.trod enc Tryz.prog W base spare held n 27 [c0, c1, c2, c3] = some y0 := by simpa [k0, k3] using h0
  have g1 : DataW.trod enc Tryz.prog W base spare held n 3 [c4] = some y1 := by simpa [k0, k1, k3] using h1
  obtain ⟨y2, y3, n2, _, _, h2, h3⟩ := trod_struct2 Tryz.underlying27 g0
  have k4 : Tryz.prog.cellsOf 25 = 3 := by kernel_rfl
  have g2 : DataW.trod enc Tryz.prog W base spare held n2 25 [c0, c1, c2] = some y2 := by simpa [k4] using h2
  have g3 : DataW.trod enc Tryz.prog W base spare held n2 3 [c3] = some y3 := by simpa [k1] using h3
  obtain ⟨z0, z1, z2, m, hz, _, i0, i1, i2⟩ := trod_struct3 Tryz.underlying25 g2
  have k2 : Tryz.prog.cellsOf 23 = 1 := by kernel_rfl
  have j0 : DataW.trod enc Tryz.prog W base spare held m 23 [c0] = some z0 := by simpa [k2] using i0
  have j1 : DataW.trod enc Tryz.prog W base spare held m 23 [c1] = some z1 := by simpa [k2] using i1
  have j2 : DataW.trod enc Tryz.prog W base spare held m 4 [c2] = some z2 := by simpa [k3] using i2
  obtain ⟨x, e, _⟩ := DataW.trod_bool Tryz.underlying4 g
  obtain ⟨x0, e0, _, w0⟩ := DataW.trod_int Tryz.underlying23 j0
  obtain ⟨x1, e1, _, w1⟩ := DataW.trod_int Tryz.underlying23 j1
  obtain ⟨x2, e2, _⟩ := DataW.trod_bool Tryz.underlying4 j2
  obtain ⟨x3, e3, _, w3⟩ := DataW.trod_int Tryz.underlying3 g3
  obtain ⟨x4, e4, _, w4⟩ := DataW.trod_int Tryz.underlying3 g1
  obtain ⟨lo0, hi0⟩ := bounds_u64 w0
  obtain ⟨lo1, hi1⟩ := bounds_u64 w1
  obtain ⟨a0, rfl⟩ := u_of x0 lo0 (by omega)
  obtain ⟨a1, rfl⟩ := u_of x1 lo1 (by omega)
  simp at e e0 e1 e2 e3 e4
  subst e e0 e1 e2 e3 e4
  exact ⟨⟨x, ⟨⟨a0, a1, x2⟩, x3⟩, x4⟩, rfl⟩
theorem open_acs6 {H : Type} {enc : TypeId × Value → H} {W : World} {base b0 : Nat} {spare : Nat → Bool} {held : Bool} {r : Reach} {v : Value} {d : DataW H} {p : List MemPlace}
    (hv : Value.okWide Tryz.prog W r b0 22 v) (h : DataW.Trod enc Tryz.prog W base spare held 22 v d p) (_ : ∀ b, spare b = true) :
    ∃ A c rs, v = .slice A (List.length rs) c ∧ RdA W A rs := by
  obtain ⟨A, len, cap, rfl⟩ := okWide_slice Tryz.underlying22 hv
  obtain ⟨fuel, hf⟩ := h
  have h5 : Tryz.prog.cellsOf 40 = 6 := by kernel_rfl
  rcases open_slice Tryz.underlying22 hf with ⟨hcs, _⟩ | ⟨a, l, c, m, n, D, Pl, hcs, _, hl, hm, hmm, _, hi⟩
  · simp [Value.cells] at hcs
    obtain ⟨rfl, rfl, rfl⟩ := hcs
    exact ⟨none, 0, [], rfl, fun h => absurd rfl h⟩
  · simp [Value.cells] at hcs
    obtain ⟨rfl, rfl, rfl⟩ := hcs
    have hlm : len ≤ m := by rw [hmm]; split <;> omega
    have key : ∀ i, i < len → ∃ r : Ac, ∀ j x, (ac6 r)[j]? = some x → W.cell? (a.add (i * 6 + j)) = some x := by
      intro i hlt
      obtain ⟨cs', hc, ht⟩ := hi i (by omega)
      rw [h5] at hc
      obtain ⟨_, hcl, hat⟩ := World.cells?_some hc
      obtain ⟨r, rfl⟩ := ac_cells6 hcl ht
      refine ⟨r, fun j x hx => ?_⟩
      have hj : j < 6 := by
        rcases Nat.lt_or_ge j 6 with h1 | h1
        · exact h1
        · rw [List.getElem?_eq_none (by simp [ac6]; omega)] at hx; cases hx
      rw [← Go.Deep.add_add, hat j hj, hx]
    have hch : ∃ f : Nat → Ac, ∀ i, i < len → ∀ j x, (ac6 (f i))[j]? = some x → W.cell? (a.add (i * 6 + j)) = some x :=
      ⟨fun i => if h : i < len then (key i h).choose else nilAc, fun i hlt j x hx => (key i hlt).choose_spec j x (by simpa [hlt] using hx)⟩
    obtain ⟨f, hf2⟩ := hch
    refine ⟨some a, cap, (List.range len).map f, by simp, fun hne => ?_⟩
    have hpos : 0 < len := by
      rcases Nat.eq_zero_or_pos len with h0 | h0
      · rw [h0] at hne; simp at hne
      · exact h0
    obtain ⟨g, off, spot⟩ := a
    have hspot : spot = none := by
      have := hf2 0 hpos 0 _ rfl
      rw [show 0 * 6 + 0 = 0 from rfl] at this
      simpa [Addr.add] using World.cell?_spot this
    subst hspot
    have hcell : ∀ i, i < len → ∀ j x, (ac6 (f i))[j]? = some x → W.cell? ⟨g, off + i * 6 + j, none⟩ = some x := fun i hlt j x hx => by
      have := hf2 i hlt j x hx
      rw [add_plain', ← Nat.add_assoc] at this
      exact this
    refine ⟨g, off, rfl, World.block_lt_of_cell? W ⟨g, off + 0 * 6 + 0, none⟩ (hcell 0 hpos 0 _ rfl), fun i hlt => ?_⟩
    have hlt' : i < len := by simpa using hlt
    have e : ((List.range len).map f)[i] = f i := by simp
    rw [e]
    exact ⟨hcell i hlt' 0 _ rfl, hcell i hlt' 1 _ rfl, hcell i hlt' 2 _ rfl, hcell i hlt' 3 _ rfl, hcell i hlt' 4 _ rfl, hcell i hlt' 5 _ rfl⟩

end Go.Proofs.YtcbfppangiopeaaGreat

namespace Go.Proofs.YtcbfppangiopeaaGreat
open Go.RowKit

def orI (x y : Int) : Int := if x = 0 then y else x
end Go.Proofs.YtcbfppangiopeaaGreat

namespace Go.Proofs.YtcbfppangiopeaaGreat
open Go.RowKit

/-- A block's first n cells are these numbers, and may be written. -/
def Row (w : World) (g n : Nat) (f : Nat → Int) : Prop :=
  g < w.heap.size ∧ (∀ j, j < n → w.cell? ⟨g, j, none⟩ = some (.int .i64 (f j))) ∧ ∀ j, w.frozen? ⟨g, j, none⟩ = false
theorem Row.below {w w' : World} {B g n : Nat} {f : Nat → Int} (h : Row w g n f) (hb : Below B w w') (hg : g < B) : Row w' g n f :=
  ⟨Nat.lt_of_lt_of_le h.1 hb.size, fun j hj => (hb.cell (p := ⟨g, j, none⟩) hg).trans (h.2.1 j hj), fun j => (hb.frozen (p := ⟨g, j, none⟩) hg).trans (h.2.2 j)⟩

theorem refBit_eq (a : Ad) (i : Int) (h0 : 0 ≤ i) (h1 : i < wid a.v6) : rawv a i = bitv a i := by
  obtain ⟨k, rfl⟩ := Int.eq_ofNat_of_zero_le h0
  rw [wid_wd] at h1
  rw [rawv_D a k (by omega), bitv_D a k (by omega)]
theorem bitv_out (a : Ad) (i : Int) (h : ¬ (0 ≤ i ∧ i < wid a.v6)) : bitv a i = 0 := by
  unfold bitv
  have : inW a.v6 i = false := by
    unfold inW
    rw [← Bool.decide_and, decide_eq_false_iff_not]
    exact h
  rw [this]
  rfl

theorem own_below {w w' : World} {B base : Nat} {e : TypeId} {size n : Nat} {v : Value} {xs : List Value} (h : w.ownsRow base e size v n xs) (hb : Below B w w') (hB : w.heap.size ≤ B) : w'.ownsRow base e size v n xs := by
  refine ⟨h.1, ?_⟩
  rcases h.2 with h' | ⟨g, cap, cur, h1, h2, h3, h4⟩
  · exact .inl h'
  · refine .inr ⟨g, cap, cur, h1, h2, ?_, h4⟩
    rw [hb.block g (Nat.lt_of_lt_of_le (Array.getElem?_eq_some_iff.1 h3).1 hB)]
    exact h3

set_option maxHeartbeats 1000000 in
theorem refBit_any (a : Ad) (i : Int) (w : World) :
    Calls Tryz.prog 76 #[.agg #[.int .u64 (u a.hi), .int .u64 (u a.lo), .bool a.v6], .int .i64 i] w fun e w' => e = .returned (.int .i64 (bitv a i)) ∧ Below w.heap.size w w' := by
  have hw := wid_bd a.v6
  by_cases hi : i < 0
  · have t1 : decide (i < 0) = true := by simp [hi]
    have hb := Lib.hid (bitv_out a i (by omega))
    go_enter Tryz.func76, Tryz.ntmps76
    go_wp2
    go_ret
    exact ⟨ret_int hb.out.symm, by go_grown⟩
  · have t1 : decide (i < 0) = false := by simp [hi]
    by_cases hi2 : wid a.v6 ≤ i
    · have t2 : decide (wid a.v6 ≤ i) = true := by simp [hi2]
      have hb := Lib.hid (bitv_out a i (by omega))
      go_enter Tryz.func76, Tryz.ntmps76
      go_wp2_with fail
      refine (refWidth_any a.v6 _).mono ?_
      rintro e w2 ⟨rfl, rfl⟩
      go_wp2
      go_ret
      exact ⟨ret_int hb.out.symm, by go_grown⟩
    · have t2 : decide (wid a.v6 ≤ i) = false := by simp [hi2]
      have hb := Lib.hid (refBit_eq a i (by omega) (by omega))
      go_enter Tryz.func76, Tryz.ntmps76
      go_wp2_with fail
      refine (refWidth_any a.v6 _).mono ?_
      rintro e w2 ⟨rfl, rfl⟩
      go_wp2_with fail
      refine (raw_any a i (by omega) (by omega) _).mono ?_
      rintro e w3 ⟨rfl, h3⟩
      have b3 := below_of (w := w) (by go_grown) h3
      clear h3
      go_wp2
      go_ret
      exact ⟨ret_int hb.out, b3⟩

def rdig (a : Ad) (m : Nat) : List Value := (List.range m).map fun j : Nat => .int .i64 (rawv a (j : Int))
theorem rdig_succ (a : Ad) (m : Nat) : rdig a (m + 1) = rdig a m ++ [.int .i64 (rawv a m)] := by
  unfold rdig
  rw [List.range_succ, List.map_append]
  rfl
theorem rdig_at (a : Ad) (m j : Nat) (h : j < m) : (rdig a m)[j]? = some (.int .i64 (rawv a j)) := by
  unfold rdig
  simp [h]
theorem rawv_bd (a : Ad) (k : Nat) (h : k < 128) : 0 ≤ rawv a k ∧ rawv a k ≤ 1 := by
  rw [rawv_P a k h]
  split <;> omega

def DigPost (w : World) (a : Ad) (e : Ending) (w' : World) : Prop := ∃ g c : Nat, e = .returned (.slice (some ⟨g, 0, none⟩) (wd a.v6) c) ∧ w.heap.size ≤ g ∧ Row w' g (wd a.v6) (fun j => rawv a j) ∧ Below w.heap.size w w'
theorem sane_raw (a : Ad) : saneB a = true ↔ (a.v6 = true ∨ ∀ j : Nat, 32 ≤ j → j < 128 → rawv a j = 0) := by
  rw [sane_iff]
  have hw := wd_lb a.v6
  constructor
  · intro h
    cases hv : a.v6
    · refine .inr fun j h1 h2 => ?_
      rw [rawv_P a j h2, ← h, P_norm, D_low a _ (by rw [hv]; show 127 - j < 96; omega)]
      rfl
    · exact .inl rfl
  · rintro h
    have hP : ∀ j, j < 128 → P (norm a) j = P a j := by
      intro j hj
      rw [P_norm, D_P]
      rcases h with h | h
      · rw [h]; simp [lb]
      · by_cases hl : lb a.v6 ≤ j
        · simp [hl]
        · have := h (127 - j) (by omega) (by omega)
          rw [rawv_P a _ (by omega), show 127 - (127 - j) = j from by omega] at this
          cases hp : P a j
          · simp
          · rw [hp] at this; simp at this
    have e1 : (norm a).hi = a.hi := by
      apply BitVec.eq_of_getLsbD_eq
      intro m hm
      have := hP (m + 64) (by omega)
      unfold P at this
      rw [if_neg (by omega), if_neg (by omega), Nat.add_sub_cancel] at this
      exact this
    have e2 : (norm a).lo = a.lo := by
      apply BitVec.eq_of_getLsbD_eq
      intro m hm
      have := hP m (by omega)
      unfold P at this
      rw [if_pos hm, if_pos hm] at this
      exact this
    show Ad.mk (norm a).hi (norm a).lo a.v6 = _
    rw [e1, e2]

set_option maxHeartbeats 2000000 in
theorem refSane_any (a : Ad) (w : World) :
    Calls Tryz.prog 74 #[.agg #[.int .u64 (u a.hi), .int .u64 (u a.lo), .bool a.v6]] w fun e w' => e = .returned (.bool (saneB a)) ∧ Below w.heap.size w w' := by
  by_cases hv : a.v6 = false
  · have HS := Lib.hid (sane_raw a)
    have HV := Lib.hid hv
    have tn : (!a.v6) = true := by rw [hv]; rfl
    clear hv
    go_enter Tryz.func74, Tryz.ntmps74
    go_wp2_with fail
    go_loopw [3] (fun i wr => ∃ k : Nat, 32 ≤ k ∧ k ≤ 128 ∧ i = .int .i64 k ∧ Hid (∀ j : Nat, 32 ≤ j → j < k → rawv a j = 0) ∧ Box wr w.heap.size a ∧ Below w.heap.size w wr) (fun i _ => 128 - (intOf i).toNat)
    case atStart =>
      refine ⟨32, by omega, by omega, rfl, fun j h1 h2 => absurd h1 (by omega), ?_, ?_⟩
      · refine ⟨?_, ?_, ?_, ?_, ?_, ?_, ?_⟩ <;> first | (go_simp; done) | (go_simp <;> rfl) | go_size
      · go_grown
    case round =>
      obtain ⟨k, hk0, hk, rfl, hall, ⟨pa, pb, pc, pd, pe, pf, pz⟩, hB⟩ := hrel
      by_cases hlt : k < 128
      · have hlt' : decide ((k : Int) < 128) = true := by simp; omega
        have hlt2 : (k : Int) < 128 := by omega
        by_cases h0 : rawv a k = 0
        · have t0 : (rawv a k == 0) = true := by simp [h0]
          have t1 : (rawv a k != 0) = false := by simp [h0]
          have H0 := Lib.hid h0
          clear h0
          go_wp2_with fail
          refine (raw_any a k (by omega) (by omega) _).mono ?_
          rintro e w3 ⟨rfl, h3⟩
          have b3 := hB.trans (h3.mono hB.size)
          obtain ⟨qa, qb, qc, qd, qe, qf, qz⟩ := cells3 h3 pz pa pb pc pd pe pf
          clear h3
          go_wp2_with fail
          refine ⟨⟨k + 1, by omega, by omega, by go_num, ?_, ⟨qa, qb, qc, qd, qe, qf, qz⟩, b3⟩, by simp [intOf]; omega⟩
          intro j h1 h2
          by_cases e : j = k
          · rw [e]; exact H0.out
          · exact hall.out j h1 (by omega)
        · have t0 : (rawv a k == 0) = false := by simp [h0]
          have t1 : (rawv a k != 0) = true := by simp [h0]
          have hs : Hid (saneB a = false) := by
            refine Lib.hid ?_
            rw [← Bool.not_eq_true, HS.out]
            rintro (h | h)
            · rw [HV.out] at h; cases h
            · exact h0 (h k hk0 hlt)
          clear h0
          go_wp2_with fail
          refine (raw_any a k (by omega) (by omega) _).mono ?_
          rintro e w3 ⟨rfl, h3⟩
          have b3 := hB.trans (h3.mono hB.size)
          clear h3
          go_wp2
          go_ret
          exact ⟨ret_bool hs.out.symm, b3⟩
      · obtain rfl : k = 128 := by omega
        have hs : Hid (saneB a = true) := Lib.hid (HS.out.2 (.inr hall.out))
        go_wp2
        go_ret
        exact ⟨ret_bool hs.out.symm, hB⟩
  · have tn : (!a.v6) = false := by simpa using hv
    have hs := Lib.hid ((sane_raw a).2 (.inl (by simpa using hv)))
    clear hv
    go_enter Tryz.func74, Tryz.ntmps74
    go_wp2_with fail
    refine wp_loop_rounds 1 ?_
    rw [rounds_succ]
    go_wp2
    go_ret
    exact ⟨ret_bool hs.out.symm, by go_grown⟩

end Go.Proofs.YtcbfppangiopeaaGreat

namespace Go.Proofs.YtcbfppangiopeaaGreat
open Go.RowKit

/-- An address out of its own digits. -/
theorem of_eq (x : Ad) (dl : Nat → Int) (hx : norm x = x) (hd : ∀ k, k < wd x.v6 → dl k = if D x (127 - k) then 1 else 0) : ofv dl x.v6 = x := by
  have hw := wd_lb x.v6
  have hb : ∀ j, j < wd x.v6 → 0 ≤ dl j ∧ dl j ≤ 1 := by
    intro j hj
    rw [hd j hj]
    split <;> omega
  rw [← of_norm dl x.v6 hb, ← hx]
  show norm (ofv dl x.v6) = _
  rw [← hx]
  have e : norm (ofv dl x.v6) = norm x := by
    refine norm_ext rfl fun j => ?_
    by_cases hj : j < 128
    · rw [D_P, P_of dl _ hb j hj]
      show (_ && decide (lb x.v6 ≤ j)) = _
      by_cases hl : lb x.v6 ≤ j
      · have h1 : 127 - j < wd x.v6 := by omega
        rw [hd _ h1, show 127 - (127 - j) = j from by omega]
        cases D x j <;> simp [hl, h1]
      · rw [D_low x j (by omega)]
        simp [hl]
    · rw [D_ge _ j (by omega), D_ge _ j (by omega)]
  simpa [hx] using e

theorem next_digits (a : Ad) (h : (nextv a).2 = true) : ∃ k, k < wd a.v6 ∧ D a (127 - k) = false ∧ D (nextv a).1 (127 - k) = true ∧ (∀ j, j < 127 - k → D a j = decide (lb a.v6 ≤ j) ∧ D (nextv a).1 j = false) ∧ ∀ j, 127 - k < j → D a j = D (nextv a).1 j := by
  obtain ⟨h1, h2, _, h4⟩ := next_spec a
  have hV := h4 h
  have hw := wd_lb a.v6
  have hd := lb_dvd a
  obtain ⟨k, hk, hle, hall, hne⟩ := common_spec a (nextv a).1 h1.symm
  have hklt : k < wd a.v6 := by
    rcases Nat.lt_or_ge k (wd a.v6) with hlt | hge
    · exact hlt
    · exfalso
      have e : V a = V (nextv a).1 := by
        apply Nat.eq_of_testBit_eq
        intro j
        by_cases hj : lb a.v6 ≤ j
        · exact hall j (by omega)
        · exact (D_low a j (by omega)).trans (D_low (nextv a).1 j (by rw [h1]; omega)).symm
      have : 0 < 2 ^ lb a.v6 := Nat.two_pow_pos _
      omega
  obtain ⟨b1, b2, b3⟩ := step_bits (V a) (lb a.v6) (127 - k) (by omega) hd (fun j hj => by
    have := hall j (by omega)
    unfold D at this
    rw [hV] at this
    exact this) (by
    have := hne hklt
    unfold D at this
    rw [hV] at this
    exact this)
  have c2 : D (nextv a).1 (127 - k) = true := by unfold D; rw [hV]; exact b2
  refine ⟨k, hklt, b1, c2, fun j hj => ⟨(b3 j hj).1, ?_⟩, fun j hj => hall j (by omega)⟩
  unfold D
  rw [hV]
  exact (b3 j hj).2

/-- All digits ones: there is no next one. -/
theorem next_stops (a : Ad) (h : ∀ j : Nat, j < wd a.v6 → rawv a j = 1) : nextv a = (norm a, false) := by
  have e : (nextv a).2 = false := by
    cases hn : (nextv a).2
    · rfl
    · obtain ⟨k, hk, h0, _⟩ := next_digits a hn
      have := h k hk
      rw [rawv_D a k hk, h0] at this
      simp at this
  obtain ⟨_, _, h3, _⟩ := next_spec a
  rw [← (h3 e).2, ← e]
/-- The last nought becomes one, the ones behind it noughts. -/
theorem next_goes (a : Ad) (x : Nat) (hx : x < wd a.v6) (h0 : rawv a x ≠ 1) (h : ∀ j : Nat, x < j → j < wd a.v6 → rawv a j = 1) :
    (nextv a).2 = true ∧ ofv (fun j => if j = x then 1 else if x < j then 0 else rawv a j) a.v6 = (nextv a).1 := by
  have hw := wd_lb a.v6
  have hx0 : D a (127 - x) = false := by
    rw [rawv_D a x hx] at h0
    cases hd : D a (127 - x)
    · rfl
    · rw [hd] at h0; simp at h0
  have hn : (nextv a).2 = true := by
    cases hn : (nextv a).2
    · exfalso
      obtain ⟨_, _, h3, _⟩ := next_spec a
      have e := (h3 hn).1
      have : D a (127 - x) = true := by
        unfold D
        rw [e]
        unfold top
        rw [ones_bit _ _ _ (by omega)]
        simp; omega
      rw [hx0] at this
      cases this
    · rfl
  refine ⟨hn, ?_⟩
  obtain ⟨h1, h2, _, _⟩ := next_spec a
  obtain ⟨k, hk, c1, c2, c3, c4⟩ := next_digits a hn
  obtain rfl : x = k := by
    rcases Nat.lt_trichotomy x k with hlt | he | hgt
    · have := h k hlt hk
      rw [rawv_D a k hk, c1] at this
      simp at this
    · exact he
    · have := (c3 (127 - x) (by omega)).1
      rw [hx0] at this
      have hl : lb a.v6 ≤ 127 - x := by omega
      simp [hl] at this
  have := of_eq (nextv a).1 (fun j => if j = x then 1 else if x < j then 0 else rawv a j) h2 (fun j hj => ?_)
  · rw [h1] at this
    exact this
  · rw [h1] at hj
    show (if j = x then (1 : Int) else if x < j then 0 else rawv a j) = _
    by_cases e : j = x
    · subst e
      rw [if_pos rfl, c2]; rfl
    · rw [if_neg e]
      by_cases e2 : x < j
      · rw [if_pos e2, (c3 (127 - j) (by omega)).2]; rfl
      · rw [if_neg e2, rawv_D a j hj, c4 (127 - j) (by omega)]

theorem of_raw (a : Ad) : ofv (fun j => rawv a j) a.v6 = norm a :=
  of_eq (norm a) _ (norm_norm a) fun k hk => by rw [rawv_D a k hk, D_norm]
theorem of_set (a : Ad) (k : Nat) (v : Int) (hk : k < wd a.v6) : ofv (fun j => if j = k then bits .and .i64 v 1 else rawv a j) a.v6 = setv a k v := by
  have hw := wd_lb a.v6
  have hv : (setv a k v).v6 = a.v6 := by
    unfold setv
    split
    · split <;> rfl
    · rfl
  have := of_eq (setv a k v) (fun j => if j = k then bits .and .i64 v 1 else rawv a j) (set_norm a k v) (fun j hj => ?_)
  · rw [hv] at this
    exact this
  · rw [hv] at hj
    rw [D_set a k v hk]
    show (if j = k then bits .and .i64 v 1 else rawv a j) = _
    by_cases e : j = k
    · subst e
      rw [if_pos rfl, if_pos rfl, and1_odd]
    · rw [if_neg e, if_neg (show ¬ 127 - j = 127 - k by omega), rawv_D a j hj]
theorem set_out (a : Ad) (i v : Int) (h : ¬ (0 ≤ i ∧ i < wid a.v6)) : setv a i v = norm a := by
  unfold setv
  have : inW a.v6 i = false := by
    unfold inW
    rw [← Bool.decide_and, decide_eq_false_iff_not]
    exact h
  rw [this]
  exact norm_norm _
theorem of_mask (a : Ad) (n : Int) : ofv (fun j => if (max n 0).toNat ≤ j then 0 else rawv a j) a.v6 = maskv a n := by
  have hw := wd_lb a.v6
  refine of_eq (maskv a n) _ (mask_norm a n) fun j hj => ?_
  have hj' : j < wd a.v6 := hj
  rw [D_mask]
  unfold clamp
  rw [wid_wd]
  by_cases e : (max n 0).toNat ≤ j
  · have : ¬ 128 ≤ (((127 - j : Nat) : Int) + min (max n 0) (wd a.v6 : Int)) := by omega
    rw [if_pos e]
    simp [this]
  · have : 128 ≤ (((127 - j : Nat) : Int) + min (max n 0) (wd a.v6 : Int)) := by omega
    rw [if_neg e, rawv_D a j hj']
    simp [this]
theorem of_fill (a : Ad) (n : Int) : ofv (fun j => if (max n 0).toNat ≤ j then 1 else rawv a j) a.v6 = fillv a n := by
  have hw := wd_lb a.v6
  refine of_eq (fillv a n) _ (fill_norm a n) fun j hj => ?_
  have hj' : j < wd a.v6 := hj
  rw [D_fill]
  unfold clamp
  rw [wid_wd]
  have hl : lb a.v6 ≤ 127 - j := by omega
  by_cases e : (max n 0).toNat ≤ j
  · have : (((127 - j : Nat) : Int) + min (max n 0) (wd a.v6 : Int)) < 128 := by omega
    rw [if_pos e]
    simp [this, hl]
  · have : ¬ (((127 - j : Nat) : Int) + min (max n 0) (wd a.v6 : Int)) < 128 := by omega
    rw [if_neg e, rawv_D a j hj']
    simp [this]

end Go.Proofs.YtcbfppangiopeaaGreat

namespace Go.Proofs.YtcbfppangiopeaaGreat
open Go.RowKit

theorem Row.set {w : World} {g n : Nat} {f : Nat → Int} (h : Row w g n f) (k : Nat) (v : Int) (hk : k < n) : Row (w.setCell ⟨g, k, none⟩ (.int .i64 v)) g n (fun j => if j = k then v else f j) := by
  refine ⟨by simpa using h.1, fun j hj => ?_, fun j => by rw [World.frozen?_setCell]; exact h.2.2 j⟩
  by_cases e : j = k
  · subst e
    rw [World.cell?_setCell_same _ _ _ (h.2.1 j hj)]
    simp
  · rw [World.cell?_setCell_other _ _ _ _ (fun e' => e (by injection e' with _ e'; exact e'.symm)), h.2.1 j hj]
    simp [e]
theorem Row.congr {w : World} {g n : Nat} {f f' : Nat → Int} (h : Row w g n f) (he : ∀ j, j < n → f j = f' j) : Row w g n f' :=
  ⟨h.1, fun j hj => by rw [h.2.1 j hj, he j hj], h.2.2⟩
theorem raw_bd (a : Ad) (j : Nat) (h : j < wd a.v6) : 0 ≤ rawv a j ∧ rawv a j ≤ 1 := rawv_bd a j (by have := wd_lb a.v6; omega)

theorem Box.far {wr : World} {b g k : Nat} {x : Ad} {v : Value} (h : Box wr b x) (hne : g ≠ b) : Box (wr.setCell ⟨g, k, none⟩ v) b x := by
  obtain ⟨h1, h2, h3, h4, h5, h6, h7⟩ := h
  refine ⟨?_, ?_, ?_, ?_, ?_, ?_, ?_⟩
  · rw [World.cell?_setCell_far _ _ _ _ hne]; exact h1
  · rw [World.cell?_setCell_far _ _ _ _ hne]; exact h2
  · rw [World.cell?_setCell_far _ _ _ _ hne]; exact h3
  · rw [World.frozen?_setCell]; exact h4
  · rw [World.frozen?_setCell]; exact h5
  · rw [World.frozen?_setCell]; exact h6
  · simpa using h7
theorem Box.on {w w' : World} {b : Nat} {x : Ad} (h : Box w b x) (hb : Below w.heap.size w w') : Box w' b x := by
  obtain ⟨h1, h2, h3, h4, h5, h6, h7⟩ := h
  exact cells3 hb h7 h1 h2 h3 h4 h5 h6
/-- No address. -/
def nil : Ad := ⟨0#64, 0#64, false⟩

end Go.Proofs.YtcbfppangiopeaaGreat

namespace Go.Proofs.YtcbfppangiopeaaGreat
open Go.RowKit

end Go.Proofs.YtcbfppangiopeaaGreat

namespace Go.Proofs.YtcbfppangiopeaaGreat
open Go.RowKit

set_option maxHeartbeats 1000000 in
theorem rpsane_any (p : Pf) (w : World) :
    Calls Tryz.prog 47 #[.agg #[.int .u64 (u p.a.hi), .int .u64 (u p.a.lo), .bool p.a.v6, .int .i64 p.n]] w fun e w' => e = .returned (.bool (psane p)) ∧ Below w.heap.size w w' := by
  have hw := wid_bd p.a.v6
  cases hs : saneB p.a
  · have hr := Lib.hid (psane_not p (by simp [hs]))
    have hs' : (!saneB p.a) = true := by simp [hs]
    clear hs
    go_enter Tryz.func47, Tryz.ntmps47
    go_wp2_with fail
    generalize hW : World.alloc _ _ = W
    have hz : w.heap.size ≤ W.heap.size := by subst hW; go_size
    have hB : Below w.heap.size w W := by subst hW; go_grown
    obtain ⟨pa, pb, pc, pg, pd, pe, pf, ph, pz⟩ := cells4 (W := W) (b := w.heap.size) (Below.refl _ W) (by subst hW; go_size) (by subst hW; go_simp <;> rfl) (by subst hW; go_simp <;> rfl) (by subst hW; go_simp <;> rfl) (by subst hW; go_simp <;> rfl) (by subst hW; go_simp <;> rfl) (by subst hW; go_simp <;> rfl) (by subst hW; go_simp <;> rfl) (by subst hW; go_simp <;> rfl)
    clear hW
    have Lpa := fun x : Later W.heap.size W => (x.cell pz).trans pa
    have Lpb := fun x : Later W.heap.size W => (x.cell pz).trans pb
    have Lpc := fun x : Later W.heap.size W => (x.cell pz).trans pc
    have Lpg := fun x : Later W.heap.size W => (x.cell pz).trans pg
    refine region_later W.heap.size (by kernel_rfl) (by kernel_rfl) ?_
    repeat (go_big_quiet_step (first | (go_at_call 74; exact later_of (Nat.le_refl _) (refSane_any p.a _)) | (go_at_call 75; exact later_same (refWidth_any _ _))))
    refine wpQuiet_nil ?_
    intro x
    have hx : Below w.heap.size w x.at := hB.trans (x.below.mono hz)
    clear Lpa Lpb Lpc Lpg
    obtain ⟨p'a, p'b, p'c, p'g, p'd, p'e, p'f, p'h, p'z⟩ := cells4 x.below pz pa pb pc pg pd pe pf ph
    clear pa pb pc pd pe pf pg ph pz
    generalize x.at = w1 at *
    clear x hB hz W
    go_wp2
    go_ret
    exact ⟨ret_bool hr.out.symm, hx⟩
  · have hs' : (!saneB p.a) = false := by simp [hs]
    by_cases h0 : p.n < 0
    · have hr := Lib.hid (psane_not p (by omega))
      have t0 : decide (p.n < 0) = true := by simp [h0]
      clear hs
      go_enter Tryz.func47, Tryz.ntmps47
      go_wp2_with fail
      generalize hW : World.alloc _ _ = W
      have hz : w.heap.size ≤ W.heap.size := by subst hW; go_size
      have hB : Below w.heap.size w W := by subst hW; go_grown
      obtain ⟨pa, pb, pc, pg, pd, pe, pf, ph, pz⟩ := cells4 (W := W) (b := w.heap.size) (Below.refl _ W) (by subst hW; go_size) (by subst hW; go_simp <;> rfl) (by subst hW; go_simp <;> rfl) (by subst hW; go_simp <;> rfl) (by subst hW; go_simp <;> rfl) (by subst hW; go_simp <;> rfl) (by subst hW; go_simp <;> rfl) (by subst hW; go_simp <;> rfl) (by subst hW; go_simp <;> rfl)
      clear hW
      have Lpa := fun x : Later W.heap.size W => (x.cell pz).trans pa
      have Lpb := fun x : Later W.heap.size W => (x.cell pz).trans pb
      have Lpc := fun x : Later W.heap.size W => (x.cell pz).trans pc
      have Lpg := fun x : Later W.heap.size W => (x.cell pz).trans pg
      refine region_later W.heap.size (by kernel_rfl) (by kernel_rfl) ?_
      repeat (go_big_quiet_step (first | (go_at_call 74; exact later_of (Nat.le_refl _) (refSane_any p.a _)) | (go_at_call 75; exact later_same (refWidth_any _ _))))
      refine wpQuiet_nil ?_
      intro x
      have hx : Below w.heap.size w x.at := hB.trans (x.below.mono hz)
      clear Lpa Lpb Lpc Lpg
      obtain ⟨p'a, p'b, p'c, p'g, p'd, p'e, p'f, p'h, p'z⟩ := cells4 x.below pz pa pb pc pg pd pe pf ph
      clear pa pb pc pd pe pf pg ph pz
      generalize x.at = w1 at *
      clear x hB hz W
      go_wp2
      go_ret
      exact ⟨ret_bool hr.out.symm, hx⟩
    · have t0 : decide (p.n < 0) = false := by simp [h0]
      by_cases h1 : wid p.a.v6 < p.n
      · have hr := Lib.hid (psane_not p (by omega))
        have t1 : decide (wid p.a.v6 < p.n) = true := by simp [h1]
        clear hs
        go_enter Tryz.func47, Tryz.ntmps47
        go_wp2_with fail
        generalize hW : World.alloc _ _ = W
        have hz : w.heap.size ≤ W.heap.size := by subst hW; go_size
        have hB : Below w.heap.size w W := by subst hW; go_grown
        obtain ⟨pa, pb, pc, pg, pd, pe, pf, ph, pz⟩ := cells4 (W := W) (b := w.heap.size) (Below.refl _ W) (by subst hW; go_size) (by subst hW; go_simp <;> rfl) (by subst hW; go_simp <;> rfl) (by subst hW; go_simp <;> rfl) (by subst hW; go_simp <;> rfl) (by subst hW; go_simp <;> rfl) (by subst hW; go_simp <;> rfl) (by subst hW; go_simp <;> rfl) (by subst hW; go_simp <;> rfl)
        clear hW
        have Lpa := fun x : Later W.heap.size W => (x.cell pz).trans pa
        have Lpb := fun x : Later W.heap.size W => (x.cell pz).trans pb
        have Lpc := fun x : Later W.heap.size W => (x.cell pz).trans pc
        have Lpg := fun x : Later W.heap.size W => (x.cell pz).trans pg
        refine region_later W.heap.size (by kernel_rfl) (by kernel_rfl) ?_
        repeat (go_big_quiet_step (first | (go_at_call 74; exact later_of (Nat.le_refl _) (refSane_any p.a _)) | (go_at_call 75; exact later_same (refWidth_any _ _))))
        refine wpQuiet_nil ?_
        intro x
        have hx : Below w.heap.size w x.at := hB.trans (x.below.mono hz)
        clear Lpa Lpb Lpc Lpg
        obtain ⟨p'a, p'b, p'c, p'g, p'd, p'e, p'f, p'h, p'z⟩ := cells4 x.below pz pa pb pc pg pd pe pf ph
        clear pa pb pc pd pe pf pg ph pz
        generalize x.at = w1 at *
        clear x hB hz W
        go_wp2
        go_ret
        exact ⟨ret_bool hr.out.symm, hx⟩
      · have t1 : decide (wid p.a.v6 < p.n) = false := by simp [h1]
        have hy := Lib.hid (psane_bits p hs (by omega) (by omega))
        have hn := Lib.hid (psane_bit p)
        clear hs
        go_enter Tryz.func47, Tryz.ntmps47
        go_wp2_with fail
        generalize hW : World.alloc _ _ = W
        have hz : w.heap.size ≤ W.heap.size := by subst hW; go_size
        have hB : Below w.heap.size w W := by subst hW; go_grown
        obtain ⟨pa, pb, pc, pg, pd, pe, pf, ph, pz⟩ := cells4 (W := W) (b := w.heap.size) (Below.refl _ W) (by subst hW; go_size) (by subst hW; go_simp <;> rfl) (by subst hW; go_simp <;> rfl) (by subst hW; go_simp <;> rfl) (by subst hW; go_simp <;> rfl) (by subst hW; go_simp <;> rfl) (by subst hW; go_simp <;> rfl) (by subst hW; go_simp <;> rfl) (by subst hW; go_simp <;> rfl)
        clear hW
        have Lpa := fun x : Later W.heap.size W => (x.cell pz).trans pa
        have Lpb := fun x : Later W.heap.size W => (x.cell pz).trans pb
        have Lpc := fun x : Later W.heap.size W => (x.cell pz).trans pc
        have Lpg := fun x : Later W.heap.size W => (x.cell pz).trans pg
        refine region_later W.heap.size (by kernel_rfl) (by kernel_rfl) ?_
        repeat (go_big_quiet_step (first | (go_at_call 74; exact later_of (Nat.le_refl _) (refSane_any p.a _)) | (go_at_call 75; exact later_same (refWidth_any _ _))))
        refine wpQuiet_nil ?_
        intro x
        have hx : Below w.heap.size w x.at := hB.trans (x.below.mono hz)
        clear Lpa Lpb Lpc Lpg
        obtain ⟨p'a, p'b, p'c, p'g, p'd, p'e, p'f, p'h, p'z⟩ := cells4 x.below pz pa pb pc pg pd pe pf ph
        clear pa pb pc pd pe pf pg ph pz
        generalize x.at = w1 at *
        clear x hB hz W
        go_wp2_with fail
        go_loopw [3] (fun v wr => ∃ i : Int, v = .int .i64 i ∧ p.n ≤ i ∧ i ≤ wid p.a.v6 ∧ Hid (∀ j : Nat, p.n ≤ (j : Int) → (j : Int) < i → bitv p.a (j : Int) = 0) ∧ PBox wr w.heap.size p ∧ Below w.heap.size w wr) (fun v _ => (wid p.a.v6 - intOf v).toNat)
        case atStart =>
          exact ⟨p.n, rfl, Int.le_refl _, by omega, fun j h2 h3 => absurd h3 (by omega), ⟨p'a, p'b, p'c, p'g, p'd, p'e, p'f, p'h, p'z⟩, hx⟩
        case round =>
          clear p'a p'b p'c p'd p'e p'f p'g p'h p'z hx
          obtain ⟨i, rfl, h2, h3, hall, ⟨pa, pb, pc, pg, pd, pe, pf, ph, pz⟩, hB⟩ := hrel
          by_cases hlt : i < wid p.a.v6
          · have tl' : decide (i < wid p.a.v6) = true := by simp [hlt]
            by_cases hb : bitv p.a i = 0
            · have hb' : (bitv p.a i == 0) = true := by simp [hb]
              have Hb := Lib.hid hb
              clear hb
              go_wp2_with fail
              refine (refWidth_any p.a.v6 _).mono ?_
              rintro e w2 ⟨rfl, rfl⟩
              go_wp2_with fail
              refine (refBit_any p.a i _).mono ?_
              rintro e w3 ⟨rfl, h4⟩
              obtain ⟨p'a, p'b, p'c, p'g, p'd, p'e, p'f, p'h, p'z⟩ := cells4 h4 pz pa pb pc pg pd pe pf ph
              have b3 := hB.trans (h4.mono hB.size)
              clear h4 hB pa pb pc pd pe pf pg ph pz
              go_wp2_with fail
              refine ⟨⟨i + 1, rfl, by omega, by omega, fun j h5 h6 => ?_, ⟨p'a, p'b, p'c, p'g, p'd, p'e, p'f, p'h, p'z⟩, b3⟩, by simp [intOf]; omega⟩
              by_cases e : (j : Int) = i
              · rw [e]; exact Hb.out
              · exact hall.out j h5 (by omega)
            · have hb' : (bitv p.a i == 0) = false := by simp [hb]
              have hr : Hid (psane p = false) := by
                cases hp : psane p
                · exact rfl
                · obtain ⟨k, rfl⟩ := Int.eq_ofNat_of_zero_le (show 0 ≤ i by omega)
                  rw [wid_wd] at hlt
                  exact absurd (hn.out hp k h2 (by omega)) hb
              clear hb
              go_wp2_with fail
              refine (refWidth_any p.a.v6 _).mono ?_
              rintro e w2 ⟨rfl, rfl⟩
              go_wp2_with fail
              refine (refBit_any p.a i _).mono ?_
              rintro e w3 ⟨rfl, h4⟩
              have b3 := hB.trans (h4.mono hB.size)
              clear h4 hB pa pb pc pd pe pf pg ph pz
              go_wp2
              go_ret
              exact ⟨ret_bool hr.out.symm, b3⟩
          · have tl' : decide (i < wid p.a.v6) = false := by simp [hlt]
            have hr : Hid (psane p = true) := hy.out fun j h5 h6 => hall.out j h5 (by rw [wid_wd] at hlt; omega)
            go_wp2_with fail
            refine (refWidth_any p.a.v6 _).mono ?_
            rintro e w2 ⟨rfl, rfl⟩
            go_wp2
            go_ret
            exact ⟨ret_bool hr.out.symm, hB⟩

set_option maxHeartbeats 1000000 in
theorem rpcon_any (p : Pf) (a : Ad) (w : World) :
    Calls Tryz.prog 78 #[.agg #[.int .u64 (u p.a.hi), .int .u64 (u p.a.lo), .bool p.a.v6, .int .i64 p.n], .agg #[.int .u64 (u a.hi), .int .u64 (u a.lo), .bool a.v6]] w fun e w' => e = .returned (.bool (pcon p a)) ∧ Below w.heap.size w w' := by
  cases hs : psane p
  · have hr : Hid (pcon p a = false) := by
      cases hc : pcon p a
      · exact rfl
      · rw [((pcon_iff p a).1 hc).1] at hs; cases hs
    have Hs := Lib.hid hs
    clear hs
    go_enter Tryz.func78, Tryz.ntmps78
    go_wp2_with fail
    refine (rpsane_any p _).mono ?_
    rintro e w1 ⟨rfl, hw1⟩
    have zw1 := hw1.size
    have bw1 := below_of (w := w) (by go_grown) hw1
    try simp at zw1
    rw [Hs.out]
    obtain ⟨pa, pb, pc, pg, pd, pe, pf, ph, pz⟩ := cells4 (b := w.heap.size) hw1 (by go_size) (by go_simp <;> rfl) (by go_simp <;> rfl) (by go_simp <;> rfl) (by go_simp <;> rfl) (by go_simp <;> rfl) (by go_simp <;> rfl) (by go_simp <;> rfl) (by go_simp <;> rfl)
    obtain ⟨qa, qb, qc, qd, qe, qf, qz⟩ := cells3 (b := w.heap.size + 1) hw1 (by go_size) (by go_simp <;> rfl) (by go_simp <;> rfl) (by go_simp <;> rfl) (by go_simp <;> rfl) (by go_simp <;> rfl) (by go_simp <;> rfl)
    clear hw1
    go_wp2
    go_ret
    exact ⟨ret_bool hr.out.symm, bw1⟩
  · by_cases hv : a.v6 = p.a.v6
    · have hv' : (a.v6 == p.a.v6) = true := by simp [hv]
      have hy := Lib.hid (pcon_bits p a hs hv)
      have hn := Lib.hid (pcon_bit p a)
      obtain ⟨b0, b1⟩ := psane_bd hs
      have hw := wid_bd p.a.v6
      have Hs := Lib.hid hs
      clear hs hv
      go_enter Tryz.func78, Tryz.ntmps78
      go_wp2_with fail
      refine (rpsane_any p _).mono ?_
      rintro e w1 ⟨rfl, hw1⟩
      have zw1 := hw1.size
      have bw1 := below_of (w := w) (by go_grown) hw1
      try simp at zw1
      rw [Hs.out]
      obtain ⟨pa, pb, pc, pg, pd, pe, pf, ph, pz⟩ := cells4 (b := w.heap.size) hw1 (by go_size) (by go_simp <;> rfl) (by go_simp <;> rfl) (by go_simp <;> rfl) (by go_simp <;> rfl) (by go_simp <;> rfl) (by go_simp <;> rfl) (by go_simp <;> rfl) (by go_simp <;> rfl)
      obtain ⟨qa, qb, qc, qd, qe, qf, qz⟩ := cells3 (b := w.heap.size + 1) hw1 (by go_size) (by go_simp <;> rfl) (by go_simp <;> rfl) (by go_simp <;> rfl) (by go_simp <;> rfl) (by go_simp <;> rfl) (by go_simp <;> rfl)
      clear hw1
      go_wp2_with fail
      go_loopw [5] (fun v wr => ∃ i : Int, v = .int .i64 i ∧ 0 ≤ i ∧ i ≤ p.n ∧ Hid (∀ j : Nat, (j : Int) < i → bitv a (j : Int) = bitv p.a (j : Int)) ∧ PBox wr w.heap.size p ∧ Box wr (w.heap.size + 1) a ∧ Below w.heap.size w wr) (fun v _ => (p.n - intOf v).toNat)
      case atStart =>
        exact ⟨0, rfl, Int.le_refl _, b0, fun j h3 => absurd h3 (by omega), ⟨pa, pb, pc, pg, pd, pe, pf, ph, pz⟩, ⟨qa, qb, qc, qd, qe, qf, qz⟩, bw1⟩
      case round =>
        clear pa pb pc pd pe pf pg ph pz qa qb qc qd qe qf qz bw1 zw1
        obtain ⟨i, rfl, h2, h3, hall, ⟨pa, pb, pc, pg, pd, pe, pf, ph, pz⟩, ⟨qa, qb, qc, qd, qe, qf, qz⟩, hB⟩ := hrel
        by_cases hlt : i < p.n
        · have tl' : decide (i < p.n) = true := by simp [hlt]
          by_cases hb : bitv a i = bitv p.a i
          · have hb' : (bitv a i == bitv p.a i) = true := by simp [hb]
            have Hb := Lib.hid hb
            clear hb
            go_wp2_with fail
            obtain ⟨W, rfl⟩ : ∃ W, W = wr := ⟨_, rfl⟩
            have hz := hB.size
            have Lpa := fun x : Later W.heap.size W => (x.cell pz).trans pa
            have Lpb := fun x : Later W.heap.size W => (x.cell pz).trans pb
            have Lpc := fun x : Later W.heap.size W => (x.cell pz).trans pc
            have Lpg := fun x : Later W.heap.size W => (x.cell pz).trans pg
            have Lqa := fun x : Later W.heap.size W => (x.cell qz).trans qa
            have Lqb := fun x : Later W.heap.size W => (x.cell qz).trans qb
            have Lqc := fun x : Later W.heap.size W => (x.cell qz).trans qc
            refine region_later W.heap.size (by kernel_rfl) (by kernel_rfl) ?_
            repeat (go_big_quiet_step (first | (go_at_call 76; exact later_of (Nat.le_refl _) (refBit_any _ _ _))))
            refine wpQuiet_nil ?_
            intro x
            have hx : Below w.heap.size w x.at := hB.trans (x.below.mono hz)
            clear Lpa Lpb Lpc Lpg Lqa Lqb Lqc
            obtain ⟨p'a, p'b, p'c, p'g, p'd, p'e, p'f, p'h, p'z⟩ := cells4 x.below pz pa pb pc pg pd pe pf ph
            clear pa pb pc pd pe pf pg ph pz
            obtain ⟨q'a, q'b, q'c, q'd, q'e, q'f, q'z⟩ := cells3 x.below qz qa qb qc qd qe qf
            clear qa qb qc qd qe qf qz
            generalize x.at = w3 at *
            clear x hB hz W
            go_wp2_with fail
            refine ⟨⟨i + 1, rfl, by omega, by omega, fun j h6 => ?_, ⟨p'a, p'b, p'c, p'g, p'd, p'e, p'f, p'h, p'z⟩, ⟨q'a, q'b, q'c, q'd, q'e, q'f, q'z⟩, hx⟩, by simp [intOf]; omega⟩
            by_cases e : (j : Int) = i
            · rw [e]; exact Hb.out
            · exact hall.out j (by omega)
          · have hb' : (bitv a i == bitv p.a i) = false := by simp [hb]
            have hr : Hid (pcon p a = false) := by
              cases hp : pcon p a
              · exact rfl
              · obtain ⟨k, rfl⟩ := Int.eq_ofNat_of_zero_le h2
                exact absurd (hn.out hp k hlt) hb
            clear hb
            go_wp2_with fail
            obtain ⟨W, rfl⟩ : ∃ W, W = wr := ⟨_, rfl⟩
            have hz := hB.size
            have Lpa := fun x : Later W.heap.size W => (x.cell pz).trans pa
            have Lpb := fun x : Later W.heap.size W => (x.cell pz).trans pb
            have Lpc := fun x : Later W.heap.size W => (x.cell pz).trans pc
            have Lpg := fun x : Later W.heap.size W => (x.cell pz).trans pg
            have Lqa := fun x : Later W.heap.size W => (x.cell qz).trans qa
            have Lqb := fun x : Later W.heap.size W => (x.cell qz).trans qb
            have Lqc := fun x : Later W.heap.size W => (x.cell qz).trans qc
            refine region_later W.heap.size (by kernel_rfl) (by kernel_rfl) ?_
            repeat (go_big_quiet_step (first | (go_at_call 76; exact later_of (Nat.le_refl _) (refBit_any _ _ _))))
            refine wpQuiet_nil ?_
            intro x
            have hx : Below w.heap.size w x.at := hB.trans (x.below.mono hz)
            clear Lpa Lpb Lpc Lpg Lqa Lqb Lqc
            clear pa pb pc pd pe pf pg ph pz qa qb qc qd qe qf qz
            generalize x.at = w3 at *
            clear x hB hz W
            go_wp2
            go_ret
            exact ⟨ret_bool hr.out.symm, hx⟩
        · have tl' : decide (i < p.n) = false := by simp [hlt]
          have hr : Hid (pcon p a = true) := hy.out fun j h5 => hall.out j (by omega)
          go_wp2
          go_ret
          exact ⟨ret_bool hr.out.symm, hB⟩
    · have hv' : (a.v6 == p.a.v6) = false := by simp [hv]
      have hr : Hid (pcon p a = false) := by
        cases hc : pcon p a
        · exact rfl
        · exact absurd ((pcon_iff p a).1 hc).2.1 hv
      have Hs := Lib.hid hs
      clear hs hv
      go_enter Tryz.func78, Tryz.ntmps78
      go_wp2_with fail
      refine (rpsane_any p _).mono ?_
      rintro e w1 ⟨rfl, hw1⟩
      have zw1 := hw1.size
      have bw1 := below_of (w := w) (by go_grown) hw1
      try simp at zw1
      rw [Hs.out]
      obtain ⟨pa, pb, pc, pg, pd, pe, pf, ph, pz⟩ := cells4 (b := w.heap.size) hw1 (by go_size) (by go_simp <;> rfl) (by go_simp <;> rfl) (by go_simp <;> rfl) (by go_simp <;> rfl) (by go_simp <;> rfl) (by go_simp <;> rfl) (by go_simp <;> rfl) (by go_simp <;> rfl)
      obtain ⟨qa, qb, qc, qd, qe, qf, qz⟩ := cells3 (b := w.heap.size + 1) hw1 (by go_size) (by go_simp <;> rfl) (by go_simp <;> rfl) (by go_simp <;> rfl) (by go_simp <;> rfl) (by go_simp <;> rfl) (by go_simp <;> rfl)
      clear hw1
      go_wp2
      go_ret
      exact ⟨ret_bool hr.out.symm, bw1⟩

end Go.Proofs.YtcbfppangiopeaaGreat
