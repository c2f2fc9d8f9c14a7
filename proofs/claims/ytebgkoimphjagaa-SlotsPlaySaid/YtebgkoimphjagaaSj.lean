/-
  The document's answer for layer 9: how it lies in memory; what own, has, At, Used return. Condition: it lies where the argument says.
-/
import Derived.Test.YtebgkoimphjagaaSh
import Derived.Test.YtebgkoimphjagaaRn
import Derived.Deep.RegionHeld3
namespace Go.Proofs.Ytebgkoimphjagaa
open Go.RowKit
set_option maxRecDepth 100000

def boolE (b : Bool) : List Value := [.bool b]
def KB : Kd Bool := ⟨boolE, 1, by decide, fun _ => rfl, fun x u h => by simp [boolE] at h; subst h; rfl⟩
theorem info_bool : (Try.prog.info? 4).map (fun i => (i.zero, i.size, i.bytes)) = some (some (.bool false), 1, 1) := by kernel_rfl
theorem KB_ty : KB.Ty 4 27 := Kd.ty_of info_bool (by omega) rfl Try.underlying27
/-- The document's things, and which are used. -/
def vsS (s : Sl) : List Int := (List.range s.most).map fun j => (s.atN j).x
def isS (s : Sl) : List Bool := (List.range s.most).map fun j => (s.atN j).is
theorem vsS_len (s : Sl) : (vsS s).length = s.most := by simp [vsS]
theorem isS_len (s : Sl) : (isS s).length = s.most := by simp [isS]
/-- Where its three rows lie. -/
structure Rw where
  A : Option Addr
  ca : Nat
  B : Option Addr
  cb : Nat
  C : Option Addr
  cc : Nat
def Rw.va (r : Rw) (s : Sl) : Value := .slice r.A s.most r.ca
def Rw.vb (r : Rw) (s : Sl) : Value := .slice r.B s.most r.cb
def Rw.vc (r : Rw) (s : Sl) : Value := .slice r.C s.fr.length r.cc
structure RfS (w : World) (r : Rw) (s : Sl) : Prop where
  A : KI.Rd w r.A (vsS s)
  B : KB.Rd w r.B (isS s)
  C : KN.Rd w r.C s.fr
  nA : r.A = none → s.most = 0 ∧ r.ca = 0
  nB : r.B = none → s.most = 0 ∧ r.cb = 0
  nC : r.C = none → s.fr.length = 0 ∧ r.cc = 0
theorem RfS.keep {w w' : World} {r : Rw} {s : Sl} (h : RfS w r s) (hb : Below w.heap.size w w') : RfS w' r s := ⟨h.A.kept hb, h.B.kept hb, h.C.kept hb, h.nA, h.nB, h.nC⟩
/-- In blocks of its own. -/
def Own (w w' : World) (r : Rw) (s : Sl) : Prop := w'.ownsRow w.heap.size 3 1 (r.va s) s.most (KI.row (vsS s)) ∧ w'.ownsRow w.heap.size 4 1 (r.vb s) s.most (KB.row (isS s)) ∧ w'.ownsRow w.heap.size 3 1 (r.vc s) s.fr.length (KN.row s.fr) ∧ (0 < s.most → ∀ b, (r.va s).ownBlock = some b → (r.vc s).ownBlock ≠ some b)
def OwnPost (w : World) (s : Sl) (e : Ending) (w' : World) : Prop := ∃ r : Rw, e = .returned (.agg #[r.va s, r.vb s, r.vc s, .int .i64 s.pl.length]) ∧ Own w w' r s ∧ Below w.heap.size w w'

theorem keepO {b : Nat} {W w' : World} {c0 c1 c2 c3 : Value} (hb : Below (b + 1) W w') (h0 : W.cell? ⟨b, 0, none⟩ = some c0) (h1 : W.cell? ⟨b, 1, none⟩ = some c1) (h2 : W.cell? ⟨b, 2, none⟩ = some c2) (h3 : W.cell? ⟨b, 3, none⟩ = some c3) :
    w'.cell? ⟨b, 0, none⟩ = some c0 ∧ w'.cell? ⟨b, 1, none⟩ = some c1 ∧ w'.cell? ⟨b, 2, none⟩ = some c2 ∧ w'.cell? ⟨b, 3, none⟩ = some c3 ∧ Below (b + 1) W w' :=
  ⟨(hb.cell (p := ⟨b, 0, none⟩) (by simp)).trans h0, (hb.cell (p := ⟨b, 1, none⟩) (by simp)).trans h1, (hb.cell (p := ⟨b, 2, none⟩) (by simp)).trans h2, (hb.cell (p := ⟨b, 3, none⟩) (by simp)).trans h3, hb⟩

set_option maxHeartbeats 40000000 in
theorem rown_any (w : World) (r : Rw) (s : Sl) (h : RfS w r s) (hk : s.Ok) :
    Calls Try.prog 24 #[.agg #[r.va s, r.vb s, r.vc s, .int .i64 s.pl.length]] w (OwnPost w s) := by
  have HR := Lib.hid h
  have k1 := hk.most
  have k2 := hk.pl
  have k3 := hk.frLe
  obtain ⟨A, ca, B, cb, C, cc⟩ := r
  unfold Rw.va Rw.vb Rw.vc
  simp only
  clear h hk
  go_enter Try.func24, Try.ntmps24
  go_upto_region 1 with fail
  generalize hW : World.alloc _ _ = W
  have hB : Below w.heap.size w W := by subst hW; go_grown
  have hzw : w.heap.size ≤ W.heap.size := hB.size
  have hb2 : w.heap.size + 1 < W.heap.size := by subst hW; simp
  have hbz : w.heap.size + 1 ≤ W.heap.size := Nat.le_of_lt hb2
  have d0 : W.cell? ⟨w.heap.size, 0, none⟩ = some (.slice A s.most ca) := by subst hW; go_simp <;> rfl
  have d1 : W.cell? ⟨w.heap.size, 1, none⟩ = some (.slice B s.most cb) := by subst hW; go_simp <;> rfl
  have d2 : W.cell? ⟨w.heap.size, 2, none⟩ = some (.slice C s.fr.length cc) := by subst hW; go_simp <;> rfl
  have d3 : W.cell? ⟨w.heap.size, 3, none⟩ = some (.int .i64 s.pl.length) := by subst hW; go_simp <;> rfl
  have hq : W.heap[w.heap.size + 1]? = some (.cells #[.slice none 0 0, .slice none 0 0, .slice none 0 0, .int .i64 0] 29 (0, 0)) := by subst hW; exact hp_new (by simp)
  have HRW := Lib.hid (HR.out.keep hB)
  have HQ := Lib.hid hq
  clear hW hq HR
  go_cut [] (fun wx => ∃ r : Rw, wx.heap[w.heap.size + 1]? = some (.cells #[r.va s, r.vb s, r.vc s, .int .i64 s.pl.length] 29 (0, 0)) ∧ Own w wx r s ∧ Below w.heap.size w wx)
  case first =>
    go_region_held3 (fun w' => w'.cell? ⟨w.heap.size, 0, none⟩ = some (.slice A s.most ca) ∧ w'.cell? ⟨w.heap.size, 1, none⟩ = some (.slice B s.most cb) ∧ w'.cell? ⟨w.heap.size, 2, none⟩ = some (.slice C s.fr.length cc) ∧ w'.cell? ⟨w.heap.size, 3, none⟩ = some (.int .i64 s.pl.length) ∧ Below (w.heap.size + 1) W w')
      (first | (refine keepO ?_ d0 d1 d2 d3; repeat (first | with_reducible exact hk14.mono hbz | with_reducible exact hk10.mono hbz | with_reducible exact hk6.mono hbz | with_reducible exact Below.refl _ _ | with_reducible refine Below.drew ?_ | with_reducible refine below_alloc ?_ hbz | refine Below.setCell ?_ (by exact Nat.le_refl _) _)))
      (first
        | (refine Kd.step_zero (o := ⟨some 6, _, _, _, _, _⟩) KI_ty (by rfl) (.tmp 3) (.tmp 5) (by rfl) W.heap.size _ (by rfl) ?_ ?_ _ _ _ (vsS s) (vsS_len s).symm HRW.out.nA (by rfl) (HRW.out.A.kept (by go_grown)) (by omega) ?_
           · repeat (first | with_reducible refine Emp.drew ?_ | (with_reducible refine Emp.made ?_; first | with_reducible rfl | (simp; done)) | with_reducible refine Emp.alloc ?_ | refine Emp.below ?_ hb10 | refine Emp.below ?_ hb6)
           · (repeat (refine Nat.le_succ_of_le ?_)); first | exact Nat.le_refl _ | exact zk10 | exact zk6
           intro A6 c6 w6 ho6 hb6 _ _
           have hl6 : ∀ b, (Value.slice A6 s.most c6).ownBlock = some b → b < w6.heap.size := fun b hb => (ho6.lt b hb).2
           have hk6 := below_of (w := W) (by go_grown) hb6
           have zk6 := hk6.size
           have zw6 := Nat.le_trans hzw hk6.size
           skip)
        | (refine Kd.step_zero (o := ⟨some 10, _, _, _, _, _⟩) KB_ty (by rfl) (.tmp 7) (.tmp 9) (by rfl) W.heap.size _ (by rfl) ?_ ?_ _ _ _ (isS s) (isS_len s).symm HRW.out.nB (by rfl) (HRW.out.B.kept (by first | exact hk6 | go_grown)) (by omega) ?_
           · repeat (first | with_reducible refine Emp.drew ?_ | (with_reducible refine Emp.made ?_; first | with_reducible rfl | (simp; done)) | with_reducible refine Emp.alloc ?_ | refine Emp.below ?_ hb10 | refine Emp.below ?_ hb6)
           · (repeat (refine Nat.le_succ_of_le ?_)); first | exact Nat.le_refl _ | exact zk10 | exact zk6
           intro A10 c10 w10 ho10 hb10 _ _
           have h610 := below_of (w := w6) (by go_grown) hb10
           have hk10 := below_of (w := W) (by go_grown) hb10
           have ho610 := own_block ho6 (fun b _ hl => h610.block b hl)
           have zk10 := hk10.size
           have zw10 := Nat.le_trans hzw hk10.size
           skip)
        | (refine Kd.step_zero (o := ⟨some 14, _, _, _, _, _⟩) KN_ty (by rfl) (.tmp 11) (.tmp 13) (by rfl) W.heap.size _ (by rfl) ?_ ?_ _ _ _ s.fr rfl HRW.out.nC (by rfl) (HRW.out.C.kept (by first | exact hk10 | go_grown)) (by omega) ?_
           · repeat (first | with_reducible refine Emp.drew ?_ | (with_reducible refine Emp.made ?_; first | with_reducible rfl | (simp; done)) | with_reducible refine Emp.alloc ?_ | refine Emp.below ?_ hb10 | refine Emp.below ?_ hb6)
           · (repeat (refine Nat.le_succ_of_le ?_)); first | exact Nat.le_refl _ | exact zk10 | exact zk6
           intro A14 c14 w14 ho14 hb14 hn14 hc14
           have hd14 := far_apart h610 (by go_grown) hb14 hl6 hn14
           have hk14 := below_of (w := W) (by go_grown) hb14
           have ho614 := own_block ho610 (fun b _ hl => (below_of (w := w10) (by go_grown) hb14).block b hl)
           have hdd := fun h0 : 0 < s.most => (Nat.eq_zero_or_pos s.fr.length).elim (fun e => apart_zero ho614 ho14 h0 (hc14 e)) hd14
           have ho1014 := own_block ho10 (fun b _ hl => (below_of (w := w10) (by go_grown) hb14).block b hl)
           have zk14 := hk14.size
           have zw14 := Nat.le_trans hzw hk14.size
           have q14 := (hk14.block (w.heap.size + 1) hb2).trans HQ.out
           have q0 : w14.cell? ⟨w.heap.size + 1, 0, none⟩ = some (.slice none 0 0) := by rw [cell_row q14]; rfl
           have q1 : w14.cell? ⟨w.heap.size + 1, 1, none⟩ = some (.slice none 0 0) := by rw [cell_row q14]; rfl
           have q2 : w14.cell? ⟨w.heap.size + 1, 2, none⟩ = some (.slice none 0 0) := by rw [cell_row q14]; rfl
           have q3 : w14.cell? ⟨w.heap.size + 1, 3, none⟩ = some (.int .i64 0) := by rw [cell_row q14]; rfl
           have f0 : w14.frozen? ⟨w.heap.size + 1, 0, none⟩ = false := frozen_of_row _ _ _ _ _ q14
           have f1 : w14.frozen? ⟨w.heap.size + 1, 1, none⟩ = false := frozen_of_row _ _ _ _ _ q14
           have f2 : w14.frozen? ⟨w.heap.size + 1, 2, none⟩ = false := frozen_of_row _ _ _ _ _ q14
           have f3 : w14.frozen? ⟨w.heap.size + 1, 3, none⟩ = false := frozen_of_row _ _ _ _ _ q14
           have HQ14 := Lib.hid q14
           clear q14
           skip))
    all_goals (go_wp2_with fail; go_meet)
    all_goals
      refine ⟨⟨A6, c6, A10, c10, A14, c14⟩, row4_set HQ14.out, ⟨?_, ?_, ?_, hdd⟩, ?_⟩
      · exact own_low (own_far (own_far (own_far (own_far ho614 hb2 _) hb2 _) hb2 _) hb2 _) hzw
      · exact own_low (own_far (own_far (own_far (own_far ho1014 hb2 _) hb2 _) hb2 _) hb2 _) hzw
      · exact own_low (own_far (own_far (own_far (own_far ho14 hb2 _) hb2 _) hb2 _) hb2 _) hzw
      · exact ((((hB.trans (hk14.mono hzw)).setCell (by exact Nat.le_succ _) _).setCell (by exact Nat.le_succ _) _).setCell (by exact Nat.le_succ _) _).setCell (by exact Nat.le_succ _) _
  case rest =>
    obtain ⟨r, q4, ho, hb⟩ := hcut
    have q0 : wc.cell? ⟨w.heap.size + 1, 0, none⟩ = some (r.va s) := by rw [cell_row q4]; rfl
    have q1 : wc.cell? ⟨w.heap.size + 1, 1, none⟩ = some (r.vb s) := by rw [cell_row q4]; rfl
    have q2 : wc.cell? ⟨w.heap.size + 1, 2, none⟩ = some (r.vc s) := by rw [cell_row q4]; rfl
    have q3 : wc.cell? ⟨w.heap.size + 1, 3, none⟩ = some (.int .i64 s.pl.length) := by rw [cell_row q4]; rfl
    have HO := Lib.hid ho
    clear ho q4
    go_wp2
    refine bodyPost_ret (v := .agg #[r.va s, r.vb s, r.vc s, .int .i64 s.pl.length]) (by simp [*, results, Try.results24, go_sem] <;> rfl) rfl ⟨r, rfl, HO.out, hb⟩

end Go.Proofs.Ytebgkoimphjagaa
