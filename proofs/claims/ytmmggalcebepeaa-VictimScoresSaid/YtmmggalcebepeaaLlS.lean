/-
  VictimScores: the law returns true. Condition: the entries lie where the argument says.
-/
import Derived.Test.YtmmggalcebepeaaNv
namespace Go.Proofs.Ytmmggalcebepeaa
open Go.RowKit
set_option maxRecDepth 100000

def sixF (_ : Nat) (x : Ent) : Ent := ⟨x.i, x.sc % 65536⟩
def twoF (_ : Nat) (x : Ent) : Ent := ⟨x.i, 2 * (x.sc % 65536) + 1⟩
theorem six_step (l : List Ent) (k : Nat) (h : k < l.length) : (trn sixF l k).set k ⟨nuL (trn sixF l k) k, scL l k % 65536⟩ = trn sixF l (k + 1) := by
  rw [(trn_low sixF l k h).2, ← trn_set sixF l k h]
  rfl
theorem two_step (l : List Ent) (k : Nat) (h : k < l.length) : (trn twoF l k).set k ⟨nuL (trn twoF l k) k, 2 * (scL l k % 65536) + 1⟩ = trn twoF l (k + 1) := by
  rw [(trn_low twoF l k h).2, ← trn_set twoF l k h]
  rfl
theorem map_nth (l : List Ent) (f : Ent → Ent) : ((List.range l.length).map fun j => f (nth l j)) = l.map f := by
  apply List.ext_getElem
  · simp
  · intro i h1 h2
    simp only [List.getElem_map, List.getElem_range]
    rw [nth_at l i (by simpa using h2)]
theorem six_two (l : List Ent) : rank 1 (trn sixF l l.length) = rank 1 (trn twoF l l.length) := by
  rw [trn_end, trn_end]
  have e1 : ((List.range l.length).map fun j => sixF j (nth l j)) = l.map fun x => ⟨x.i, x.sc % 65536⟩ := map_nth l fun x => ⟨x.i, x.sc % 65536⟩
  have e2 : ((List.range l.length).map fun j => twoF j (nth l j)) = (l.map fun x => (⟨x.i, x.sc % 65536⟩ : Ent)).map fun x => ⟨x.i, 2 * x.sc + 1⟩ := by
    rw [List.map_map]
    exact map_nth l fun x => ⟨x.i, 2 * (x.sc % 65536) + 1⟩
  rw [e1, e2]
  exact (rank_map (fun x => (⟨x.i, 2 * x.sc + 1⟩ : Ent)) (fun x y => by simp only; omega) (fun x => rfl) 1 _).symm
theorem six_lru (l : List Ent) : rank 0 (trn sixF l l.length) = rank 0 l := by
  rw [trn_end, rank_lru 0 (by decide), rank_lru 0 (by decide)]
  have e1 : ((List.range l.length).map fun j => sixF j (nth l j)) = l.map fun x => ⟨x.i, x.sc % 65536⟩ := map_nth l fun x => ⟨x.i, x.sc % 65536⟩
  rw [e1, List.map_map]
  rfl
theorem EO.far {w : World} {B n c : Nat} {A : Option Addr} {L : List Ent} (h : EO w B A n c L) {p : Addr} (hp : p.block < B) (u : Value) : EO (w.setCell p u) B A n c L := ⟨h.1, own_far h.2 hp u⟩
theorem EO.near {w : World} {B b n c : Nat} {A : Option Addr} {L : List Ent} (h : EO w B A n c L) (hb : ∀ g, A = some ⟨g, 0, none⟩ → g < b) {p : Addr} (hp : b ≤ p.block) (u : Value) : EO (w.setCell p u) B A n c L := ⟨h.1, ownsRow_setCell_other h.2 (fun e => by
  rcases h.2.2 with ⟨e1, -⟩ | ⟨g, cap, cur, e1, -⟩
  · rw [e1] at e
    simp [Value.ownBlock] at e
  · rw [e1] at e
    simp only [Value.slice.injEq] at e1
    simp only [Value.ownBlock, Option.some.injEq] at e
    have := hb g e1.1
    omega) u⟩

set_option maxHeartbeats 4000000 in
theorem victimScores_law (A : Option Addr) (c : Nat) (l : List Ent) (w : World) (h : KE.Rd w A l ∧ (A = none → l = [] ∧ c = 0)) :
    Calls Try.prog 6 #[.slice A l.length c] w fun e w' => e = .returned (.bool true) ∧ Below w.heap.size w w' := by
  have HR := Lib.hid h.1
  clear h
  by_cases hl : l.length ≤ 200
  · have hl' : ¬ (200 : Int) < (l.length : Int) := by omega
    obtain ⟨n, hn⟩ : ∃ n, n = l.length := ⟨_, rfl⟩
    have HN := Lib.hid hn
    have cO := Lib.hid (fun (W : World) (hb : Below w.heap.size w W) => ours12_any A c l W (HR.out.keep hb (Nat.le_refl _)) (by omega))
    rw [← hn] at hl' hl
    rw [← hn]
    rw [← hn] at cO
    clear hn
    go_enter Try.func6, Try.ntmps6
    go_wp2_with fail
    refine (awake12_any _).mono ?_
    rintro e w1 ⟨rfl, h1⟩
    have B1 := Lib.hid h1
    clear h1
    go_wp2_with fail
    refine (cO.out w1 B1.out).mono ?_
    rintro e w2 hq
    obtain ⟨A2, c2, rfl, ho2, hb2⟩ := hq.eo
    rw [← HN.out] at ho2 ⊢
    have O2 : Hid (EO w2 w.heap.size A2 n c2 l) := Lib.hid ⟨ho2.1, own_low ho2.2 B1.out.size⟩
    have B2 := Lib.hid (B1.out.trans (hb2.mono B1.out.size))
    clear hq ho2 hb2
    go_wp2_with fail
    refine (cO.out w2 B2.out).mono ?_
    rintro e w3 hq
    obtain ⟨A3, c3, rfl, ho3, hb3⟩ := hq.eo
    rw [← HN.out] at ho3 ⊢
    have O3 : Hid (EO w3 w2.heap.size A3 n c3 l) := Lib.hid ho3
    have O23 := Lib.hid (O2.out.keep hb3)
    have HG : Hid (∀ g, A2 = some ⟨g, 0, none⟩ → 0 < n → g < w2.heap.size) := Lib.hid (fun g e h0 => by
      obtain ⟨g', e', -, h1⟩ := O2.out.addr h0
      rw [e] at e'
      simp only [Option.some.injEq, Addr.mk.injEq, and_true] at e'
      rw [e']
      exact h1)
    have B3 := Lib.hid (B2.out.trans (hb3.mono B2.out.size))
    clear hq ho3 hb3 O2
    go_wp2_with fail
    go_loopw [6] (fun i wr => ∃ k : Nat, i = .int .i64 k ∧ k ≤ n ∧ EO wr w.heap.size A2 n c2 (trn sixF l k) ∧ EO wr w2.heap.size A3 n c3 (trn twoF l k) ∧ Below w.heap.size w wr) (fun i _ => n - (RowKit.intOf i).toNat)
    case atStart => exact ⟨0, rfl, Nat.zero_le _, by rw [trn_zero]; exact O23.out, by rw [trn_zero]; exact O3.out, B3.out⟩
    case round =>
      clear O23 O3 B3
      obtain ⟨k, rfl, hk, ho, ho', hB⟩ := hrel
      have O2 := Lib.hid ho
      have O3 := Lib.hid ho'
      have B3 := Lib.hid hB
      clear ho ho' hB
      obtain ⟨W, rfl⟩ : ∃ W, W = wr := ⟨_, rfl⟩
      by_cases hlt : k < n
      · have hlt' : (k : Int) < (n : Int) := by omega
        have hk9 : (k : Int) + 1 ≤ 1000000 := by omega
        have HLT := Lib.hid hlt
        obtain ⟨g, rfl, gB, gz⟩ := O2.out.addr (by omega)
        obtain ⟨g', rfl, gB', gz'⟩ := O3.out.addr (by omega)
        have hgg : g < w2.heap.size := HG.out g rfl (by omega)
        have ia := fun V => idx_ent g n c2 k hlt V
        have ib := fun V => idx_ent g' n c3 k hlt V
        obtain ⟨q, off, rfl, hq, -, ls⟩ := ke_at (HR.out.keep B3.out (Nat.le_refl _)) (k := k) (by rw [← HN.out]; exact hlt)
        have il := fun V => idx_ren q off n c k hlt V
        obtain ⟨-, a1, -, af1⟩ := O2.out.cells k hlt
        obtain ⟨-, b1, -, bf1⟩ := O3.out.cells k hlt
        have hand := i64_and16 (scL l k)
        have hqw : q < w.heap.size := by
          obtain ⟨q', off', e, hq', -⟩ := ke_at HR.out (k := k) (by rw [← HN.out]; exact hlt)
          simp only [Option.some.injEq, Addr.mk.injEq, and_true] at e
          rw [e.1]
          exact hq'
        obtain ⟨y, hy⟩ : ∃ y, y = scL l k % 65536 := ⟨_, rfl⟩
        rw [← hy] at hand
        have hy0 : 0 ≤ y ∧ y < 65536 := by omega
        have S1 := Lib.hid (O2.out.setS k hlt y)
        have T1 : Hid ((trn sixF l k).set k ⟨nuL (trn sixF l k) k, y⟩ = trn sixF l (k + 1)) := Lib.hid (by rw [hy]; exact six_step l k (by rw [← HN.out]; exact hlt))
        have T2 : Hid ((trn twoF l k).set k ⟨nuL (trn twoF l k) k, 2 * y + 1⟩ = trn twoF l (k + 1)) := Lib.hid (by rw [hy]; exact two_step l k (by rw [← HN.out]; exact hlt))
        have S2 := Lib.hid (S1.out.near (b := w2.heap.size) (fun g0 e => by cases e; exact hgg) (p := ⟨g', k * 2 + 1, none⟩) gB' (.int .i64 (2 * y + 1)))
        have S3 := Lib.hid ((O3.out.far (p := ⟨g, k * 2 + 1, none⟩) hgg (.int .i64 y)).setS k hlt (2 * y + 1))
        have S4 := Lib.hid ((B3.out.setCell (p := ⟨g, k * 2 + 1, none⟩) gB (.int .i64 y)).setCell (p := ⟨g', k * 2 + 1, none⟩) (by have := B2.out.size; simp only; omega) (.int .i64 (2 * y + 1)))
        have hne : ¬ g = g' := by omega
        have hne2 : ¬ g' = g := by omega
        have hne3 : ¬ q = g := by omega
        have hne4 : ¬ g = q := by omega
        have hne5 : ¬ q = g' := by have := B2.out.size; omega
        have hne6 : ¬ g' = q := by have := B2.out.size; omega
        generalize scL l k = z at ls hand
        generalize scL (trn sixF l k) k = z1 at a1
        generalize scL (trn twoF l k) k = z2 at b1
        clear hy O2 O3 B3 S1
        go_wp2
        go_roundw
        case rel => exact ⟨k + 1, by go_num, HLT.out, by rw [← T1.out]; exact S2.out, by rw [← T2.out]; exact S3.out, S4.out⟩
        case measure =>
          have := HLT.out
          simp [RowKit.intOf]
          omega
      · have hlt' : ¬ (k : Int) < (n : Int) := by omega
        have hkn : k = n := by omega
        have HLA : Hid ((trn sixF l n).length = n ∧ (trn twoF l n).length = n ∧ rank 1 (trn sixF l n) = rank 1 (trn twoF l n) ∧ rank 0 (trn sixF l n) = rank 0 l) := Lib.hid ⟨by rw [trn_len, HN.out], by rw [trn_len, HN.out], by rw [HN.out]; exact six_two l, by rw [HN.out]; exact six_lru l⟩
        rw [hkn] at O2 O3
        clear hkn
        generalize trn sixF l n = La at *
        generalize trn twoF l n = Lb at *
        have cA := Lib.hid (fun (pol : Int) (V : World) (hb : Below W.heap.size W V) => by
          obtain ⟨r1, -, r2⟩ := O2.out.rd
          have h1 := rank12_any pol A2 c2 La V (r1.kept hb) r2 (by rw [HLA.out.1]; omega)
          rw [HLA.out.1] at h1
          exact h1)
        have cB := Lib.hid (fun (pol : Int) (V : World) (hb : Below W.heap.size W V) => by
          obtain ⟨r1, -, r2⟩ := O3.out.rd
          have h1 := rank12_any pol A3 c3 Lb V (r1.kept hb) r2 (by rw [HLA.out.2.1]; omega)
          rw [HLA.out.2.1] at h1
          exact h1)
        have cL := Lib.hid (fun (V : World) A' c' (hr : KE.Rd V A' l) hA => by
          have h1 := rank12_any 0 A' c' l V hr hA (by rw [← HN.out]; omega)
          rw [← HN.out] at h1
          exact h1)
        have HL := Lib.hid hl
        have HRL : Hid (∀ pol, (rank pol La).length = n ∧ (rank pol Lb).length = n ∧ (rank pol l).length = n) := Lib.hid (fun pol => ⟨by rw [rank_len, HLA.out.1], by rw [rank_len, HLA.out.2.1], by rw [rank_len, HN.out]⟩)
        clear O2 O3
        go_wp2_with fail
        refine (cA.out 1 W (Below.refl _ _)).mono ?_
        rintro e x1 hq
        obtain ⟨P1, d1, rfl, r1, h1⟩ := hq.rd
        have R1 := Lib.hid r1
        have V1 := Lib.hid h1
        clear hq r1 h1
        go_wp2_with fail
        refine (cB.out 1 x1 V1.out).mono ?_
        rintro e x2 hq
        obtain ⟨P2, d2, rfl, r2, h2⟩ := hq.rd
        have R2 := Lib.hid r2
        have R12 := Lib.hid (R1.out.kept h2)
        have V2 := Lib.hid (V1.out.trans (h2.mono V1.out.size))
        clear hq r2 h2
        rw [(HRL.out 1).1, (HRL.out 1).2.1]
        go_wp2_with fail
        have i1 := ints12_any (rank 1 La) P1 P2 d1 d2 x2 R12.out (by rw [HLA.out.2.2.1]; exact R2.out) (by rw [(HRL.out 1).1]; have := HL.out; omega)
        rw [(HRL.out 1).1] at i1
        refine i1.mono ?_
        rintro e x3 ⟨rfl, h3⟩
        have V3 := Lib.hid (V2.out.trans (h3.mono V2.out.size))
        clear h3 i1 R1 R2 R12
        go_wp2_with fail
        refine (cA.out 0 x3 V3.out).mono ?_
        rintro e x4 hq
        obtain ⟨P4, d4, rfl, r4, h4⟩ := hq.rd
        have R4 := Lib.hid r4
        have V4 := Lib.hid (V3.out.trans (h4.mono V3.out.size))
        clear hq r4 h4
        rw [(HRL.out 0).1]
        go_wp2_with fail
        refine (cO.out x4 (B3.out.trans (V4.out.mono B3.out.size))).mono ?_
        rintro e x5 hq
        obtain ⟨P5, d5, rfl, r5, -, hA5, h5⟩ := hq.rd
        have R5 := Lib.hid r5
        have R45 := Lib.hid (R4.out.kept h5)
        have V5 := Lib.hid (V4.out.trans (h5.mono V4.out.size))
        have HA5 := Lib.hid hA5
        rw [← HN.out]
        clear hq r5 h5 hA5
        go_wp2_with fail
        refine (cL.out x5 P5 d5 R5.out HA5.out).mono ?_
        rintro e x6 hq
        obtain ⟨P6, d6, rfl, r6, h6⟩ := hq.rd
        have R6 := Lib.hid r6
        have R46 := Lib.hid (R45.out.kept h6)
        have V6 := Lib.hid (V5.out.trans (h6.mono V5.out.size))
        clear hq r6 h6
        rw [(HRL.out 0).2.2]
        go_wp2_with fail
        have i2 := ints12_any (rank 0 La) P4 P6 d4 d6 x6 R46.out (by rw [HLA.out.2.2.2]; exact R6.out) (by rw [(HRL.out 0).1]; have := HL.out; omega)
        rw [(HRL.out 0).1] at i2
        refine i2.mono ?_
        rintro e x7 ⟨rfl, h7⟩
        have V7 := Lib.hid (B3.out.trans ((V6.out.trans (h7.mono V6.out.size)).mono B3.out.size))
        clear h7 i2
        go_wp2
        go_ret
        exact ⟨rfl, V7.out⟩
  · have hl' : (200 : Int) < (l.length : Int) := by omega
    go_enter Try.func6, Try.ntmps6
    go_wp2_with fail
    refine (awake12_any _).mono ?_
    rintro e w1 ⟨rfl, h1⟩
    go_wp2
    go_ret
    exact ⟨rfl, h1⟩

end Go.Proofs.Ytmmggalcebepeaa
