/-
  The order of all in the document's answer (Rank of kedgeref12), and the document's entries as the package's. Condition: the entries lie where the argument says.
-/
import Derived.Test.YtmmggalcebepeaaNq
import Derived.Test.YtmmggalcebepeaaRegB
namespace Go.Proofs.Ytmmggalcebepeaa
open Go.RowKit
set_option maxRecDepth 100000

/-- A fresh row of entries. -/
def EntPost (w : World) (l : List Ent) (e : Ending) (w' : World) : Prop := ∃ A c, e = .returned (.slice A l.length c) ∧ w'.ownsRow w.heap.size 35 2 (.slice A l.length c) l.length (KE.row l) ∧ Below w.heap.size w w'
/-- A fresh row of numbers. -/
def IntPost (w : World) (l : List Int) (e : Ending) (w' : World) : Prop := ∃ A c, e = .returned (.slice A l.length c) ∧ w'.ownsRow w.heap.size 3 1 (.slice A l.length c) l.length (KI.row l) ∧ Below w.heap.size w w'

set_option maxHeartbeats 4000000 in
theorem ours12_any (A : Option Addr) (c : Nat) (l : List Ent) (w : World) (hr : KE.Rd w A l) (hl : l.length ≤ 100000) :
    Calls Try.prog 9 #[.slice A l.length c] w (EntPost w l) := by
  have HR := Lib.hid hr
  clear hr
  go_enter Try.func9, Try.ntmps9
  go_wp2_with fail
  go_loopw [3, 4] (fun v i wr => ∃ (k : Nat) (A' : Option Addr) (c' : Nat), v = .slice A' k c' ∧ k ≤ l.length ∧ i = .int .i64 k ∧ Hid (wr.ownsRow w.heap.size 35 KE.k (.slice A' k c') k (KE.row (l.take k))) ∧ Below w.heap.size w wr) (fun _ i _ => l.length - (RowKit.intOf i).toNat)
  case atStart => exact ⟨0, none, 0, rfl, Nat.zero_le _, rfl, Lib.hid (World.ownsRow_nil _ _ _ _), Below.refl _ _⟩
  case round =>
    obtain ⟨k, A', c', rfl, hk, rfl, ho, hB⟩ := hrel
    by_cases hlt : k < l.length
    · have hlt' : (k : Int) < (l.length : Int) := by omega
      have hk0 : (0 : Int) ≤ (k : Int) := by omega
      have hk9 : (k : Int) + 1 ≤ 1000000000 := by omega
      obtain ⟨g, off, rfl, hg, kn, ks⟩ := ke_at (HR.out.keep hB (Nat.le_refl _)) (k := k) hlt
      have ik := fun V => idx_ren g off l.length c k hlt V
      have hsuc : l.take (k + 1) = l.take k ++ [l[k]] := List.take_succ_eq_append_getElem hlt
      have hlen : k = (l.take k).length := by rw [List.length_take]; omega
      rw [nuL_at l k hlt] at kn
      rw [scL_at l k hlt] at ks
      obtain ⟨x, hx⟩ : ∃ x, l[k] = x := ⟨_, rfl⟩
      rw [hx] at kn ks hsuc
      obtain ⟨W, rfl⟩ : ∃ W, W = wr := ⟨_, rfl⟩
      have hz := hB.size
      have HS := Lib.hid hsuc
      have HLN := Lib.hid hlen
      clear hx hsuc hlen
      go_upto_region 5 with fail
      have K0 := fun q : Later W.heap.size W => (q.cell (p := ⟨g, off + k * 2, none⟩) hg).trans kn
      have K1 := fun q : Later W.heap.size W => (q.cell (p := ⟨g, off + k * 2 + 1, none⟩) hg).trans ks
      refine region_tail1 12 W.heap.size (.slice A' k c') (by kernel_rfl) (by kernel_rfl) (.inl ⟨rfl, fun _ => by simp [go_sem]⟩) (fun _ _ _ h => h) ?_
      simp only [Nat.reduceSub, List.take_succ_cons, List.take_zero, List.drop_succ_cons, List.drop_zero, Act.put, List.setIfInBounds_toArray, List.set_cons_succ, List.set_cons_zero]
      repeat (go_big_quiet_step (fail))
      refine wpQuiet_nil ?_
      intro y
      have hy := y.below
      clear K0 K1 kn ks
      generalize y.at = w2 at hy ⊢
      clear y
      have b2 : Below w.heap.size w w2 := hB.trans (hy.mono hz)
      have ho2 := Lib.hid (own_block ho.out (fun b _ hl => hy.block b hl))
      have z2 := b2.size
      clear ho hlt'
      go_wp2_with (at_builtin; refine Kd.wpList_one KE_ty rfl (.tmp 11) (.tmp 23) rfl w.heap.size _ k (l.take k) HLN.out (by rfl) (own_block ho2.out (fun b _ hl => Below.block (B := w2.heap.size) (w := w2) (by go_grown) b hl)) _ x (by rfl) (hp_new rfl) (by omega) (by simp; omega) ?_; intro A9 c9 w9 hG; have HG := Lib.hid hG.1; have b9 : Below w.heap.size w w9 := (b2.alloc (by omega) _).trans hG.2.2.2; clear hG)
      go_roundw
      case rel => exact ⟨k + 1, A9, c9, rfl, by omega, by go_num, Lib.hid (by rw [HS.out]; exact HG.out), b9⟩
      case measure => simp [RowKit.intOf]; omega
    · obtain rfl : k = l.length := by omega
      have hlt' : ¬ (l.length : Int) < (l.length : Int) := by omega
      rw [List.take_length] at ho
      go_wp2
      go_ret
      exact ⟨A', c', rfl, ho.out, hB⟩

section
variable {α : Type} {K : Kd α} {ops : Array Oper} {o : Oper} {a : Act} {w : World} {Q : Exit → Act → World → Prop}
theorem Kd.wpList_zero {E SL : TypeId} (F : K.Ty E SL) {rest : List Oper} (hgd : o.guard = none) (s x : Operand) (ho : o.op = .call { callee := .builtin .append, args := #[s, x], argTypes := #[SL, SL] }) (base g : Nat) (hs : a.eval s = .slice (some ⟨g, 0, none⟩) 0 0) (hg : w.heap[g]? = some (.cells #[] E (0, 0))) (hbg : base ≤ g)
    (A : Option Addr) (m c : Nat) (b : List α) (hm : m = b.length) (hA : A = none → m = 0 ∧ c = 0) (hx : a.eval x = .slice A m c) (h2 : K.Rd w A b) (hb : m ≤ 1000000000)
    (h : ∀ A' c' w', w'.ownsRow base E K.k (.slice A' m c') m (K.row b) → Below w.heap.size w w' → wpList Try.prog ops Q rest (a.put o.dst (.slice A' m c')) w') : wpList Try.prog ops Q (o :: rest) a w := by
  refine wpList_plain hgd fun _ hK => ?_
  obtain ⟨v', w', e1, e2, e3, e4, e5⟩ := Kd.append0 F w base g hg hbg b o.type A m c hm hA h2 hb
  unfold Oper.wp execOp
  simp only [ho, resolve, invoke, builtin, Sem.run_bind, Sem.run_pure, Result.andThen_ok, List.map_toArray, List.map_cons, List.map_nil, hs, hx, e1]
  obtain ⟨A', c', rfl⟩ := val_of e2
  exact hK _ _ (h A' c' w' e2 e3)
end
theorem rank_step (pol : Int) (L : List Ent) (h : 0 < L.length) : rank pol L = nuL L (whr pol L) :: rank pol (L.take (whr pol L) ++ L.drop (whr pol L + 1)) := by
  rw [← List.eraseIdx_eq_take_drop_succ]
  have h1 := erase_len pol L h
  unfold rank
  rw [h1]
  obtain ⟨k, hk⟩ : ∃ k, L.length = k + 1 := ⟨L.length - 1, by omega⟩
  rw [hk, rnkE_succ, List.map_cons, Nat.add_sub_cancel]
  rfl
theorem rank_nil (pol : Int) (L : List Ent) (h : L.length = 0) : rank pol L = [] := by
  unfold rank
  rw [h]
  rfl

set_option maxHeartbeats 4000000 in
theorem rrank12_any (pol : Int) (A : Option Addr) (c : Nat) (l : List Ent) (w : World) (hr : KE.Rd w A l) (hA : A = none → l.length = 0 ∧ c = 0) (hl : l.length ≤ 100000) :
    Calls Try.prog 13 #[.int .i64 pol, .slice A l.length c] w (IntPost w (rank pol l)) := by
  have HR := Lib.hid hr
  have HA := Lib.hid hA
  clear hr hA
  go_enter Try.func13, Try.ntmps13
  go_upto_region 3 with (at_builtin; refine Kd.wpList_zero KR_ty rfl (.tmp 9) (.tmp 10) rfl w.heap.size _ (by rfl) (hp_new rfl) (Nat.le_refl _) A l.length c l rfl HA.out (by rfl) (HR.out.kept (by go_grown)) (by omega) ?_; intro A1 c1 w1 ho1 hb1; have b1 : Below w.heap.size w w1 := Below.trans (by go_grown) (hb1.mono (by go_size)); have HO1 := Lib.hid ho1; clear hb1 ho1)
  go_wp2_with fail
  go_loopw [5, 6] (fun x y wr => ∃ (d m : Nat) (R : List Int) (L : List Ent) (Ao Al : Option Addr) (co cl : Nat), x = .slice Ao d co ∧ y = .slice Al m cl ∧ d = R.length ∧ m = L.length ∧ d + m = l.length ∧ rank pol l = R ++ rank pol L ∧ Hid (wr.ownsRow w.heap.size 3 KI.k (.slice Ao d co) d (KI.row R)) ∧ Hid (wr.ownsRow w.heap.size 38 KE.k (.slice Al m cl) m (KE.row L)) ∧ Below w.heap.size w wr) (fun _ y _ => match y with | .slice _ n _ => n | _ => 0)
  case atStart => exact ⟨0, l.length, [], l, none, A1, 0, c1, rfl, rfl, rfl, rfl, by omega, rfl, Lib.hid (World.ownsRow_nil _ _ _ _), HO1, b1⟩
  case round =>
    clear HO1 b1
    obtain ⟨d, m, R, L, Ao, Al, co, cl, rfl, rfl, hd, hm, hdm, hrk, hO, hL, hB⟩ := hrel
    have HD := Lib.hid hd
    have HM := Lib.hid hm
    have HRK := Lib.hid hrk
    obtain ⟨W, rfl⟩ : ∃ W, W = wr := ⟨_, rfl⟩
    have hz := hB.size
    by_cases h0 : 0 < m
    · have h0' : (0 : Int) < (m : Int) := by omega
      obtain ⟨p, hp⟩ : ∃ p, p = whr pol L := ⟨_, rfl⟩
      have hpm : p < m := by rw [hp, hm]; exact whr_lt pol L (by omega)
      have hwI : whI pol L = (p : Int) := by unfold whI; rw [if_neg (by omega), hp]
      have HST : Hid (rank pol L = nuL L p :: rank pol (L.take p ++ L.drop (p + 1))) := Lib.hid (by rw [hp]; exact rank_step pol L (by omega))
      obtain ⟨A', c', e', hlc, hrd, hA'⟩ := KE.rd_own hL.out hm
      simp only [Value.slice.injEq, true_and] at e'
      obtain ⟨rfl, rfl⟩ := e'
      have c2 := where12_any pol Al cl L W hrd (by omega)
      rw [← hm, hwI] at c2
      have C2 := Lib.hid c2
      clear c2 hwI hp
      obtain ⟨g, off, rfl, hg, kn, -⟩ := ke_at hrd (k := p) (by omega)
      have ik := fun V => idx_ren g off m cl p hpm V
      generalize nuL L p = x at kn HST
      have RD := Lib.hid hrd
      have hLm : L.length ≤ 100000 := by omega
      have hd9 : d ≤ 100000 := by omega
      have hst := Kd.slice_to KR_ty (some ⟨g, off, none⟩) m cl (p : Int) (by omega) (by omega)
      have hsf := Kd.slice_from KR_ty (some ⟨g, off, none⟩) m cl ((p : Int) + 1) (by omega) (by omega)
      have e1 : (p : Int).toNat = p := by omega
      have e2 : ((p : Int) + 1).toNat = p + 1 := by omega
      rw [e1] at hst
      rw [e2] at hsf
      have wp1 : IntKind.i64.wrap ((p : Int) + 1) = (p : Int) + 1 := by rw [IntKind.wrap_i64]; omega
      have HLT : Hid (p = (L.take p).length ∧ m - (p + 1) = (L.drop (p + 1)).length ∧ p + (m - (p + 1)) + 1 = m ∧ L.length ≤ cl) := Lib.hid ⟨by rw [List.length_take]; omega, by rw [List.length_drop]; omega, by omega, by omega⟩
      clear hrd hA' hd hm hrk e1 e2
      go_wp2_with fail
      refine C2.out.mono ?_
      rintro e w1 ⟨rfl, h1⟩
      have HO1 := Lib.hid (own_block hO.out (fun b _ hl => h1.block b hl))
      have HL1 := Lib.hid (own_block hL.out (fun b _ hl => h1.block b hl))
      have kn1 := (h1.cell (p := ⟨g, off + p * 2, none⟩) hg).trans kn
      have b1 := hB.trans (h1.mono hz)
      have z1 := b1.size
      clear hO hL kn h1 C2 RD hg
      go_upto_region 6 with (at_builtin; refine Kd.wpList_one KI_ty rfl (.tmp 18) (.tmp 24) rfl w.heap.size _ d R HD.out (by rfl) (HO1.out.alloc _) _ x (by rfl) (hp_new rfl) (by omega) (by simp; omega) ?_; intro A2 c2 w2 hG; have HO2 := Lib.hid hG.1; have HL2 := Lib.hid (own_other (HL1.out.alloc _) hG.2.1 (fun b hb e => own_types12 HL1.out HO1.out (by decide) b hb e)); have b2 : Below w.heap.size w w2 := (b1.alloc z1 _).trans hG.2.2.2; clear hG)
      have z2 := b2.size
      clear HO1 HL1 kn1 b1 z1
      obtain ⟨A5, c5, e5, -, hrd5, hA5⟩ := KE.rd_own HL2.out HM.out
      simp only [Value.slice.injEq, true_and] at e5
      obtain ⟨rfl, rfl⟩ := e5
      have RD := Lib.hid hrd5
      clear hrd5 hA5
      go_upto_region 7 with (at_builtin; refine Kd.wpList_zero KR_ty rfl (.tmp 26) (.tmp 29) rfl w2.heap.size _ (by rfl) (hp_new rfl) (Nat.le_refl _) (some ⟨g, off, none⟩) p cl (L.take p) HLT.out.1 (fun e => by cases e) (by rfl) ((RD.out.kept (by go_grown)).take p) (by omega) ?_; intro A3 c3 w3 ho3 hb3; have b3 : Below w2.heap.size w2 w3 := Below.trans (by go_grown) (hb3.mono (by go_size)); have HO3 := Lib.hid ho3; clear hb3 ho3)
      have z3 := b3.size
      go_upto_region 8 with (at_builtin; refine Kd.wpList_many KR_ty rfl (.tmp 31) (.tmp 35) rfl w2.heap.size _ p (L.take p) HLT.out.1 (by rfl) HO3.out (cutK KE.k (some ⟨g, off, none⟩) cl (p + 1)) (m - (p + 1)) (cl - (p + 1)) (L.drop (p + 1)) HLT.out.2.1 (fun e => by unfold cutK at e; split at e <;> simp at e) (by rfl) ((RD.out.kept b3).cut cl (p + 1) HLT.out.2.2.2) (by omega) z3 ?_; intro A4 c4 w4 hG; have HL4 := Lib.hid hG.1; have b4 : Below w2.heap.size w2 w4 := b3.trans hG.2.2.2; clear hG)
      have HO5 := Lib.hid (own_block HO2.out (fun b _ hl => b4.block b hl))
      have b5 := b2.trans (b4.mono z2)
      clear HO2 HL2 RD b3 b4 HO3
      go_wp2
      go_roundw
      case rel =>
        refine ⟨d + 1, p + (m - (p + 1)), R ++ [x], L.take p ++ L.drop (p + 1), A2, A4, c2, c4, rfl, rfl, by rw [List.length_append, ← HD.out]; rfl, by rw [List.length_append, ← HLT.out.1, ← HLT.out.2.1], by have := HLT.out; omega, ?_, HO5, Lib.hid (own_low HL4.out z2), b5⟩
        rw [HRK.out, HST.out]
        simp
      case measure =>
        have := HLT.out
        simp
        omega
    · have h0' : ¬ (0 : Int) < (m : Int) := by omega
      have h00 : m = 0 := by omega
      have HF : Hid (rank pol l = R ∧ d = (rank pol l).length) := Lib.hid (by
        have h1 := rank_nil pol L (by omega)
        rw [hrk, h1, List.append_nil]
        exact ⟨rfl, hd⟩)
      clear hd hm hdm hrk
      go_wp2
      go_ret
      refine ⟨Ao, co, by rw [← HF.out.2]; rfl, ?_, hB⟩
      rw [← HF.out.2, HF.out.1]
      exact hO.out

end Go.Proofs.Ytmmggalcebepeaa
