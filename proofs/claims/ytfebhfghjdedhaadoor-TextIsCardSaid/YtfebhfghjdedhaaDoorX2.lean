/-
  What awake of the laws of layer 3 returns: true. Condition: the library's tables hold what its text lays.
-/
import Derived.Test.YtfebhfghjdedhaaDoorX1
import Derived.Test.YtfebhfghjdedhaaDoorFr
import Derived.OneCell
import Derived.Lib.IndexMore
import Derived.Test.YtfebhfghjdedhaaDoorQf
import Derived.Test.YtfebhfghjdedhaaDoorMathP
import Derived.Test.YtfebhfghjdedhaaDoorRefH
namespace Go.Proofs.YtfebhfghjdedhaaDoor
open Go.RowKit
set_option maxRecDepth 100000

theorem spl_len (c : UInt8) : ∀ (l cur p : List UInt8), p ∈ spl c cur l → p.length ≤ cur.length + l.length
  | [], cur, p, h => by
    rw [spl_nil] at h
    obtain rfl := List.mem_singleton.1 h
    simp
  | b :: l, cur, p, h => by
    rw [spl_cons] at h
    split at h
    · rcases List.mem_cons.1 h with rfl | h
      · simp
      · have := spl_len c l [] p h
        simp only [List.length_nil, List.length_cons] at this ⊢
        omega
    · have := spl_len c l _ p h
      simp only [List.length_append, List.length_cons, List.length_nil] at this ⊢
      omega
/-- An address of four numbers. -/
def fourO (l : List UInt8) : Option Ad := (shortL l).map fun bs => fromv (at0 bs) false
theorem fourO_none {l : List UInt8} (h : shortL l = none) : fourO l = none := by unfold fourO; rw [h]; rfl
theorem fourO_some {l : List UInt8} {bs : List Int} (h : shortL l = some bs) : fourO l = some (fromv (at0 bs) false) := by unfold fourO; rw [h]; rfl

set_option maxHeartbeats 2000000 in
theorem refFour_any (s : ByteArray) (hs : s.size ≤ 1000) (w : World) :
    Calls Tryd.prog 18 #[.string s] w fun e w' => e = .returned (.tuple #[.agg #[.int .u64 (u ((fourO s.data.toList).getD ad0).hi), .int .u64 (u ((fourO s.data.toList).getD ad0).lo), .bool ((fourO s.data.toList).getD ad0).v6], .int .i64 (erA (fourO s.data.toList))]) ∧ Below w.heap.size w w' := by
  obtain ⟨i0, hi0, hz0, hz1, hz2⟩ := info_parts info_u8
  have ls : s.data.toList.length = s.size := by simp
  have HS := Lib.hid (shortL_spl s.data.toList)
  have hp := spl_pos 46 s.data.toList []
  have HL := Lib.hid (spl_len 46 s.data.toList [])
  have hpl := spl_le 46 s.data.toList []
  have cs := fun w => refSplit_any s 46 hs w
  rw [show ((46 : UInt8).toNat : Int) = 46 from rfl] at cs
  obtain ⟨P, hP⟩ : ∃ P, P = spl 46 [] s.data.toList := ⟨_, rfl⟩
  rw [← hP] at HS hp HL cs hpl
  clear hP
  go_enter Tryd.func18, Tryd.ntmps18
  go_wp2_with fail
  generalize hW1 : World.alloc _ _ = W1
  have z1 : w.heap.size < W1.heap.size := by subst hW1; go_size
  have b1 : Below w.heap.size w W1 := by subst hW1; go_grown
  obtain ⟨pa, pb, pc, pd, pe, pf, pz⟩ : Box W1 w.heap.size ad0 := by
    subst hW1
    refine ⟨?_, ?_, ?_, ?_, ?_, ?_, ?_⟩ <;> first | (go_simp; done) | (go_simp <;> rfl) | go_size
  clear hW1
  refine (cs W1).mono ?_
  rintro e w2 ⟨v2, rfl, hown2, hw2⟩
  have z2 := hw2.size
  have b2 := b1.trans (hw2.mono (Nat.le_of_lt z1))
  obtain ⟨qa, qb, qc, qd, qe, qf, qz⟩ := cells3 hw2 pz pa pb pc pd pe pf
  clear pa pb pc pd pe pf pz cs
  obtain ⟨g, cap, hv, hgb, hgl⟩ := hown2.form hp
  have hcl := hown2.cells (g := g) (by rw [hv]; rfl)
  have Hcell := Lib.hid (fun (j : Nat) (x : List UInt8) (hx : P[j]? = some x) => (by
    have e := hcl j (.string ⟨x.toArray⟩) (by unfold strv; rw [List.getElem?_map, hx]; rfl)
    rw [addr_add, Nat.zero_add] at e
    exact e : w2.cell? ⟨g, j, none⟩ = some (.string ⟨x.toArray⟩)))
  subst hv
  clear hcl hown2
  go_wp2_with fail
  go_loopw [5, 6] (fun l i wr => ∃ (k : Nat) (acc : List Int), k ≤ P.length ∧ (P.length ≠ 4 → k = 0) ∧ i = .int .i64 k ∧ acc.length = k ∧ wr.ownsRow w2.heap.size 5 1 l acc.length (u8s acc) ∧ Below w2.heap.size w2 wr ∧ Hid (bytesGo one (P.drop k) acc = bytesGo one P [])) (fun _ i _ => P.length - (intOf i).toNat)
  case atStart => exact ⟨0, [], Nat.zero_le _, fun _ => rfl, rfl, rfl, World.ownsRow_nil _ _ _ _, Below.refl _ _, Lib.hid rfl⟩
  case round =>
    obtain ⟨k, acc, hk, hk4, rfl, hal, hown, hB, HG⟩ := hrel
    have Hown := Lib.hid hown
    have Hge := Lib.hid (own_ge hown)
    have hbase := hB.size
    clear hown
    obtain ⟨ra, rb, rc, rd, re, rf, rz⟩ := cells3 hB (by omega) qa qb qc qd qe qf
    by_cases hlt : k < P.length
    · have hlt' : (k : Int) < (P.length : Int) := by omega
      obtain ⟨x, hx⟩ : ∃ x, P[k]? = some x := ⟨_, List.getElem?_eq_getElem hlt⟩
      have hck := (hB.cell (p := ⟨g, k, none⟩) hgl).trans (Hcell.out k x hx)
      have hxl := HL.out x (List.mem_of_getElem? hx)
      have hxp : P.drop k = x :: P.drop (k + 1) := by
        rw [List.drop_eq_getElem_cons hlt]
        congr 1
        exact (List.getElem?_eq_some_iff.1 hx).2
      have cn := refNumber_any ⟨x.toArray⟩ 255 (by omega) (by omega) (by simp [ByteArray.size]; simp at hxl; omega) wr
      rw [bl x] at cn
      have HG2 := HG.out
      rw [hxp] at HG2
      clear hx hxp HG hxl
      by_cases h4 : P.length = 4
      · clear hk4
        have h4' : ((P.length : Int) != 4) = false := by rw [h4]; rfl
        have hSS : shortL s.data.toList = bytesGo one P [] := by rw [HS.out, if_pos h4]
        have H4 := Lib.hid h4
        have hkb : k < 4 := by omega
        clear h4 hp hpl
        cases hN : numL 255 x with
        | none =>
          have hone : one x = none := by unfold one; rw [hN]; rfl
          rw [bytesGo_none hone] at HG2
          have HR := Lib.hid (fourO_none (hSS.trans HG2.symm))
          rw [numR_none hN] at cn
          clear HG2 hSS hN hone
          go_wp2_with (go_at_call 22; refine cn.mono ?_; rintro e w3 ⟨rfl, rfl⟩)
          refine bodyPost_ret (v := .tuple #[.agg #[.int .u64 0, .int .u64 0, .bool false], .int .i64 5]) (by simp [*, results, Tryd.results18, go_sem] <;> rfl) rfl ⟨by rw [HR.out]; rfl, ?_⟩
          have bX := b2.trans (hB.mono (by omega))
          go_grown
        | some n =>
          have hone : one x = some [n] := by unfold one; rw [hN]; rfl
          rw [bytesGo_some hone] at HG2
          have HG3 := Lib.hid HG2
          obtain ⟨n0, n1⟩ := numL_bd (by omega) hN
          rw [numR_some hN] at cn
          have n0' : ¬ n < 0 := by omega
          clear HG2 hSS hN hone
          go_wp2_with fail
          refine cn.mono ?_
          rintro e w4 ⟨rfl, hw4⟩
          rw [hw4]
          clear hw4 w4 cn
          go_wp2_with (
            at_builtin
            refine wpList_append_own _ rfl (.tmp 29) (.tmp 32) _ rfl w2.heap.size 5 i0 _ 1 1 Tryd.underlying36 hi0 hz0 hz1 hz2 rfl (by omega) _ _ _ rfl (Hown.out.alloc _) ⟨wr.heap.size, 0, none⟩ 1 1 [.int .u8 n] rfl rfl (World.news_of_block (cs := #[.int .u8 n]) (t := 5) (fr := (0, 0)) (heap_alloc_new wr _)) (by simp [Value.oneCell']) (by simp only [maxLen]; omega) (by omega) (by simp; omega) ?_
            intro v1 w3 hown1 hg1 hat1
            have H1 := Lib.hid hown1
            have G1 := Lib.hid hg1
            clear hown1 hg1 hat1
            )
          have bX : Below w2.heap.size w2 w3 := (hB.alloc (by omega) _).grown G1.out (by simp; omega) Hge.out
          refine ⟨⟨k + 1, acc ++ [n], by omega, fun h => absurd H4.out h, by go_num, by simp; omega, ?_, bX, HG3⟩, by simp [intOf]; omega⟩
          rw [List.length_append, u8s_append]
          exact H1.out
      · clear hk4
        have h4' : ((P.length : Int) != 4) = true := by rw [bne_iff_ne]; omega
        have HR := Lib.hid (fourO_none (by rw [HS.out, if_neg h4]))
        clear h4 hp hpl
        generalize numR 255 x = n at *
        clear HG2
        by_cases hneg : n < 0
        · go_wp2_with (go_at_call 22; refine cn.mono ?_; rintro e w3 ⟨rfl, rfl⟩)
          refine bodyPost_ret (v := .tuple #[.agg #[.int .u64 0, .int .u64 0, .bool false], .int .i64 5]) (by simp [*, results, Tryd.results18, go_sem] <;> rfl) rfl ⟨by rw [HR.out]; rfl, ?_⟩
          have bX := b2.trans (hB.mono (by omega))
          go_grown
        · go_wp2_with (go_at_call 22; refine cn.mono ?_; rintro e w3 ⟨rfl, rfl⟩)
          refine bodyPost_ret (v := .tuple #[.agg #[.int .u64 0, .int .u64 0, .bool false], .int .i64 5]) (by simp [*, results, Tryd.results18, go_sem] <;> rfl) rfl ⟨by rw [HR.out]; rfl, ?_⟩
          have bX := b2.trans (hB.mono (by omega))
          go_grown
    · have hlt' : ¬ (k : Int) < (P.length : Int) := by omega
      obtain rfl : k = P.length := by omega
      have h4 : P.length = 4 := by
        by_cases h : P.length = 4
        · exact h
        · have := hk4 h
          omega
      have HG2 := HG.out
      rw [List.drop_eq_nil_of_le (Nat.le_refl _)] at HG2
      have hS : shortL s.data.toList = some acc := by rw [HS.out, if_pos h4, ← HG2]; rfl
      obtain ⟨hl, hall⟩ := shortL_spec hS
      have HR := Lib.hid (fourO_some hS)
      obtain ⟨g3, cap3, hv3, hgb3, hgl3⟩ := Hown.out.form (by omega)
      have hcl3 := Hown.out.cells (g := g3) (by rw [hv3]; rfl)
      have cf := refFrom_any false g3 0 cap3 (at0 acc) (fun j hj => at0_bd hall j (by rw [hl]; exact hj)) wr hgl3 (fun j hj => by
        have e := hcl3 j _ (u8s_at acc j (by rw [hl]; exact hj))
        rw [addr_add] at e
        exact e)
      rw [show nb false = 4 from rfl] at cf
      clear hcl3 HG HG2 hS hall hk4 hp hpl
      subst hv3
      rw [hl]
      clear h4 hal hl
      go_wp2_with fail
      refine cf.mono ?_
      rintro e w3 ⟨rfl, hw3⟩
      obtain ⟨ta, tb, tc, td, te, tf, tz⟩ := cells3 hw3 rz ra rb rc rd re rf
      have b3 := (b2.trans (hB.mono (by omega))).trans (hw3.mono (by omega))
      go_wp2
      refine bodyPost_ret (v := .tuple #[.agg #[.int .u64 (u (fromv (at0 acc) false).hi), .int .u64 (u (fromv (at0 acc) false).lo), .bool (fromv (at0 acc) false).v6], .int .i64 0]) (by simp [*, results, Tryd.results18, go_sem] <;> rfl) rfl ⟨by rw [HR.out]; rfl, ?_⟩
      go_grown

end Go.Proofs.YtfebhfghjdedhaaDoor

namespace Go.Proofs.YtfebhfghjdedhaaDoor
open Go.RowKit
set_option maxRecDepth 100000

/-- A group's value, modulo 65536 at each digit. -/
def grpM : List UInt8 → Int → Option Int
  | [], n => some n
  | b :: l, n => if dgo b.toNat = true then grpM l ((n * 16 + dgv b.toNat) % 65536) else none
theorem grpM_nil (n : Int) : grpM [] n = some n := rfl
theorem grpM_cons (b : UInt8) (l : List UInt8) (n : Int) : grpM (b :: l) n = if dgo b.toNat = true then grpM l ((n * 16 + dgv b.toNat) % 65536) else none := rfl
theorem grpM_go : ∀ (l : List UInt8) (n : Int), grpM l (n % 65536) = (grpGo l n).map fun x => x % 65536
  | [], n => rfl
  | b :: l, n => by
    rw [grpM_cons, grpGo_cons]
    split
    · rw [show (n % 65536 * 16 + dgv b.toNat) % 65536 = (n * 16 + dgv b.toNat) % 65536 by omega]
      exact grpM_go l _
    · rfl
theorem grpL_M (l : List UInt8) : grpL l = if l = [] ∨ 4 < l.length then none else grpM l 0 := by
  by_cases h : l = [] ∨ 4 < l.length
  · rw [if_pos h]
    exact if_pos h
  · rw [if_neg h]
    have e : grpL l = grpGo l 0 := if_neg h
    have e2 := grpM_go l 0
    rw [show (0 : Int) % 65536 = 0 from rfl] at e2
    rw [e2, ← e]
    cases hg : grpL l with
    | none => rfl
    | some x =>
      have := grpL_bd hg
      simp only [Option.map_some]
      congr 1
      omega
theorem two_none {l : List UInt8} (h : l = [] ∨ 4 < l.length ∨ grpM l 0 = none) : two l = none := by
  unfold two
  rw [grpL_M]
  split
  · rfl
  · rcases h with h | h | h
    · rename_i h2; exact absurd (.inl h) h2
    · rename_i h2; exact absurd (.inr h) h2
    · rw [h]; rfl
theorem two_some {l : List UInt8} {n : Int} (h0 : l ≠ []) (h4 : l.length ≤ 4) (h : grpM l 0 = some n) : two l = some [n / 256, n % 256] := by
  unfold two
  rw [grpL_M, if_neg (by rintro (h | h); exact h0 h; omega), h]
  rfl
theorem grpM_at (x : ByteArray) (j : Nat) (hj : j < x.size) (n : Int) : grpM (x.data.toList.drop j) n = if dgo (x[j]).toNat = true then grpM (x.data.toList.drop (j + 1)) ((n * 16 + dgv (x[j]).toNat) % 65536) else none := by
  rw [drop_at x j hj, grpM_cons]

theorem someL_none {l : List UInt8} (h0 : l ≠ []) (h : bytesGo two (spl 58 [] l) [] = none) : someL l = none := by unfold someL; rw [if_neg h0]; exact h
theorem someL_some {l : List UInt8} (h0 : l ≠ []) {a : List Int} (h : bytesGo two (spl 58 [] l) [] = some a) : someL l = some a := by unfold someL; rw [if_neg h0]; exact h
set_option maxHeartbeats 2000000 in
theorem refSome_any (s : ByteArray) (hs : s.size ≤ 1000) (w : World) :
    Calls Tryd.prog 38 #[.string s] w (PartPost w (someL s.data.toList)) := by
  obtain ⟨i0, hi0, hz0, hz1, hz2⟩ := info_parts info_u8
  have ls : s.data.toList.length = s.size := by simp
  by_cases hs0 : s.data.toList = []
  · have HR := Lib.hid (show someL s.data.toList = some [] from if_pos hs0)
    have hne : s.toList.isEmpty = true := by rw [ByteArray.toList_eq, hs0]; rfl
    clear hs0
    go_enter Tryd.func38, Tryd.ntmps38
    go_wp2
    refine bodyPost_ret (v := .tuple #[.slice none 0 0, .bool true]) (by simp [*, results, Tryd.results38, go_sem] <;> rfl) rfl ⟨.slice none 0 0, by rw [HR.out]; rfl, by rw [HR.out]; exact World.ownsRow_nil _ _ _ _, ?_⟩
    go_grown
  have hne : s.toList.isEmpty = false := by rw [ByteArray.toList_eq]; cases h : s.data.toList with | nil => exact absurd h hs0 | cons a b => rfl
  have HSN := Lib.hid (fun h => someL_none hs0 h)
  have HSS := Lib.hid (fun a h => someL_some hs0 (a := a) h)
  have hp := spl_pos 58 s.data.toList []
  have HL := Lib.hid (spl_len 58 s.data.toList [])
  have hpl := spl_le 58 s.data.toList []
  have cs := refSplit_any s 58 hs w
  rw [show ((58 : UInt8).toNat : Int) = 58 from rfl] at cs
  obtain ⟨P, hP⟩ : ∃ P, P = spl 58 [] s.data.toList := ⟨_, rfl⟩
  rw [← hP] at HSN HSS hp HL cs hpl
  clear hP hs0
  go_enter Tryd.func38, Tryd.ntmps38
  go_wp2_with fail
  refine cs.mono ?_
  rintro e w2 ⟨v2, rfl, hown2, hw2⟩
  have b2 := hw2
  have z2 := hw2.size
  obtain ⟨g, cap, hv, hgb, hgl⟩ := hown2.form hp
  have hcl := hown2.cells (g := g) (by rw [hv]; rfl)
  have Hcell := Lib.hid (fun (j : Nat) (x : List UInt8) (hx : P[j]? = some x) => (by
    have e := hcl j (.string ⟨x.toArray⟩) (by unfold strv; rw [List.getElem?_map, hx]; rfl)
    rw [addr_add, Nat.zero_add] at e
    exact e : w2.cell? ⟨g, j, none⟩ = some (.string ⟨x.toArray⟩)))
  have hP9 : P.length ≤ 1001 := by omega
  subst hv
  clear hcl hown2 cs hne hp hpl
  go_wp2_with fail
  go_loopw [5, 6] (fun l i wr => ∃ (k : Nat) (acc : List Int), k ≤ P.length ∧ i = .int .i64 k ∧ acc.length = 2 * k ∧ wr.ownsRow w2.heap.size 5 1 l acc.length (u8s acc) ∧ Below w2.heap.size w2 wr ∧ Hid (bytesGo two (P.drop k) acc = bytesGo two P [])) (fun _ i _ => P.length - (intOf i).toNat)
  case atStart => exact ⟨0, [], Nat.zero_le _, rfl, rfl, World.ownsRow_nil _ _ _ _, Below.refl _ _, Lib.hid rfl⟩
  case round =>
    obtain ⟨k, acc, hk, rfl, hal, hown, hB, HG⟩ := hrel
    have Hown := Lib.hid hown
    have Hge := Lib.hid (own_ge hown)
    have hbase := hB.size
    clear hown
    by_cases hlt : k < P.length
    · have hlt' : (k : Int) < (P.length : Int) := by omega
      obtain ⟨x, hx⟩ : ∃ x, P[k]? = some x := ⟨_, List.getElem?_eq_getElem hlt⟩
      have hck := (hB.cell (p := ⟨g, k, none⟩) hgl).trans (Hcell.out k x hx)
      have hxl := HL.out x (List.mem_of_getElem? hx)
      have hxp : P.drop k = x :: P.drop (k + 1) := by
        rw [List.drop_eq_getElem_cons hlt]
        congr 1
        exact (List.getElem?_eq_some_iff.1 hx).2
      have HG2 := HG.out
      rw [hxp] at HG2
      have HTN : Hid (two x = none → someL s.data.toList = none) := Lib.hid (fun h => HSN.out (by rw [bytesGo_none h] at HG2; exact HG2.symm))
      have HTS : Hid (∀ bs, two x = some bs → bytesGo two (P.drop (k + 1)) (acc ++ bs) = bytesGo two P []) := Lib.hid (fun bs h => by rw [bytesGo_some h] at HG2; exact HG2)
      obtain ⟨X, hX⟩ : ∃ X : ByteArray, X = ⟨x.toArray⟩ := ⟨_, rfl⟩
      have hxe : x = X.data.toList := by rw [hX]
      rw [← hX] at hck
      rw [hxe] at HTN HTS hxl
      have hXl : X.data.toList.length = X.size := by simp
      have hXs : X.size ≤ 1000 := by simp only [List.length_nil] at hxl; omega
      have hBw : Below w.heap.size w wr := b2.trans (hB.mono z2)
      have HBw := Lib.hid hBw
      clear hx hxp HG hxl HG2 hX hxe x
      go_wp2_with fail
      generalize wr = w8 at *
      go_loopw [7, 8] (fun v i wr => ∃ (j : Nat) (n : Int), j ≤ X.size ∧ 0 ≤ n ∧ n < 65536 ∧ v = .int .i64 n ∧ i = .int .i64 (j : Int) ∧ Hid (grpM (X.data.toList.drop j) n = grpM X.data.toList 0) ∧ w8 = wr) (fun _ i _ => X.size - (intOf i).toNat)
      case atStart => exact ⟨0, 0, Nat.zero_le _, by omega, by omega, rfl, rfl, Lib.hid rfl, rfl⟩
      case round =>
        obtain ⟨j, n, hj, n0, n1, rfl, rfl, HM, rfl⟩ := hrel
        by_cases hlj : j < X.size
        · have hlj' : (j : Int) < (X.size : Int) := by omega
          have hM := HM.out
          rw [grpM_at X j hlj] at hM
          clear HM
          have hbd : (X[j]'hlj).toNat < 256 := (X[j]'hlj).toNat_lt
          have cd := refDigit_any ((X[j]'hlj).toNat : Int) (by omega) (by omega) w8
          obtain ⟨d0, d1⟩ := dgv_bd ((X[j]'hlj).toNat : Int)
          cases hok : dgo ((X[j]'hlj).toNat : Int) with
          | false =>
            rw [hok] at cd hM
            have HR := Lib.hid (HTN.out (two_none (.inr (.inr (by rw [← hM]; rfl)))))
            clear hM hok d0 d1
            go_wp2_with (go_at_call 60; refine cd.mono ?_; rintro e w3 ⟨rfl, rfl⟩)
            refine bodyPost_ret (v := .tuple #[.slice none 0 0, .bool false]) (by simp [*, results, Tryd.results38, go_sem] <;> rfl) rfl ⟨.slice none 0 0, by rw [HR.out]; rfl, by rw [HR.out]; exact World.ownsRow_nil _ _ _ _, HBw.out⟩
          | true =>
            rw [hok] at cd hM
            rw [if_pos rfl] at cd hM
            have HM2 := Lib.hid hM
            clear hM hok
            generalize dgv ((X[j]'hlj).toNat : Int) = d at *
            have q0 : 0 ≤ n * 16 + d := by omega
            have q1 : n * 16 + d < 9223372036854775807 := by omega
            have q2 : ¬ d < 0 := by omega
            have q3 : 0 ≤ (n * 16 + d) % 65536 := by omega
            have q4 : (n * 16 + d) % 65536 < 65536 := by omega
            go_wp2_with (go_at_call 60; refine cd.mono ?_; rintro e w3 ⟨rfl, rfl⟩)
            go_roundw
            case rel => exact ⟨j + 1, (n * 16 + d) % 65536, by omega, q3, q4, rfl, by go_num, HM2, trivial⟩
            case measure => simp [intOf]; omega
        · have hlj' : ¬ (j : Int) < (X.size : Int) := by omega
          have hjX : j = X.size := by omega
          subst hjX
          have hM := HM.out
          rw [List.drop_eq_nil_of_le (by omega), grpM_nil] at hM
          clear HM
          by_cases hl0 : X.size < 1
          · have hl0' : (X.size : Int) < 1 := by omega
            have HR := Lib.hid (HTN.out (two_none (.inl (List.eq_nil_of_length_eq_zero (by omega)))))
            clear hM
            go_wp2
            refine bodyPost_ret (v := .tuple #[.slice none 0 0, .bool false]) (by simp [*, results, Tryd.results38, go_sem] <;> rfl) rfl ⟨.slice none 0 0, by rw [HR.out]; rfl, by rw [HR.out]; exact World.ownsRow_nil _ _ _ _, HBw.out⟩
          · by_cases hl4 : 4 < X.size
            · have hl0' : ¬ (X.size : Int) < 1 := by omega
              have hl4' : 4 < (X.size : Int) := by omega
              have HR := Lib.hid (HTN.out (two_none (.inr (.inl (by omega)))))
              clear hM
              go_wp2
              refine bodyPost_ret (v := .tuple #[.slice none 0 0, .bool false]) (by simp [*, results, Tryd.results38, go_sem] <;> rfl) rfl ⟨.slice none 0 0, by rw [HR.out]; rfl, by rw [HR.out]; exact World.ownsRow_nil _ _ _ _, HBw.out⟩
            · have hl0' : ¬ (X.size : Int) < 1 := by omega
              have hl4' : ¬ 4 < (X.size : Int) := by omega
              have HT := Lib.hid (HTS.out [n / 256, n % 256] (two_some (by intro e; rw [e] at hXl; have : X.size = 0 := hXl.symm; omega) (by omega) hM.symm))
              have hq0 : 0 ≤ n / 256 := by omega
              have hq1 : n / 256 < 256 := by omega
              clear hM
              go_wp2_with (
                at_builtin
                refine wpList_append_own _ rfl (.tmp 57) (.tmp 64) _ rfl w2.heap.size 5 i0 _ 1 1 Tryd.underlying36 hi0 hz0 hz1 hz2 rfl (by omega) _ _ _ rfl (Hown.out.alloc _) ⟨w8.heap.size, 0, none⟩ 2 2 [.int .u8 (n / 256), .int .u8 (n % 256)] rfl rfl (World.news_of_block (cs := #[.int .u8 (n / 256), .int .u8 (n % 256)]) (t := 5) (fr := (0, 0)) (heap_alloc_new w8 _)) (by simp [Value.oneCell']) (by simp only [maxLen]; omega) (by omega) (by simp; omega) ?_
                intro v1 w3 hown1 hg1 hat1
                have H1 := Lib.hid hown1
                have G1 := Lib.hid hg1
                clear hown1 hg1 hat1
                )
              have bX : Below w2.heap.size w2 w3 := (hB.alloc (by omega) _).grown G1.out (by simp; omega) Hge.out
              have hal2 : (acc ++ [n / 256, n % 256]).length = 2 * (k + 1) := by simp; omega
              refine ⟨⟨k + 1, acc ++ [n / 256, n % 256], by omega, by go_num, hal2, ?_, bX, HT⟩, by simp [intOf]; omega⟩
              rw [List.length_append, u8s_append]
              exact H1.out
    · obtain rfl : k = P.length := by omega
      have hlt' : ¬ ((P.length : Nat) : Int) < (P.length : Int) := by omega
      have HG2 := HG.out
      rw [List.drop_eq_nil_of_le (Nat.le_refl _)] at HG2
      have HR := Lib.hid (HSS.out acc HG2.symm)
      have hBw : Below w.heap.size w wr := b2.trans (hB.mono z2)
      clear HG HG2
      go_wp2
      refine bodyPost_ret (v := .tuple #[u5, .bool true]) (by simp [*, results, Tryd.results38, go_sem] <;> rfl) rfl ⟨u5, by rw [HR.out]; rfl, by rw [HR.out]; exact Hown.out.mono z2, hBw⟩

end Go.Proofs.YtfebhfghjdedhaaDoor

namespace Go.Proofs.YtfebhfghjdedhaaDoor
open Go.RowKit
set_option maxRecDepth 100000

/-- How an element lies in cells. -/
structure Kd (α : Type) where
  enc : α → List Value
  k : Nat
  pos : 0 < k
  len : ∀ x, (enc x).length = k
  cell : ∀ x, ∀ u ∈ enc x, u.oneCell' = true
section
variable {α : Type} (K : Kd α)
def Kd.row (l : List α) : List Value := l.flatMap K.enc
theorem Kd.row_append (a b : List α) : K.row (a ++ b) = K.row a ++ K.row b := List.flatMap_append
theorem Kd.row_one (a : α) : K.row [a] = K.enc a := by simp [Kd.row]
theorem Kd.row_cons (a : α) (l : List α) : K.row (a :: l) = K.enc a ++ K.row l := rfl
theorem Kd.row_len (l : List α) : (K.row l).length = l.length * K.k := by
  induction l with
  | nil => simp [Kd.row]
  | cons r l ih => rw [K.row_cons, List.length_append, ih, K.len, List.length_cons, Nat.add_mul]; omega
theorem Kd.row_at (l : List α) (i : Nat) (h : i < l.length) (j : Nat) (hj : j < K.k) : (K.row l)[i * K.k + j]? = (K.enc l[i])[j]? := by
  induction l generalizing i with
  | nil => cases h
  | cons r l ih =>
    rw [K.row_cons]
    cases i with
    | zero => rw [List.getElem?_append_left (by rw [K.len]; omega)]; simp
    | succ i =>
      rw [List.getElem?_append_right (by rw [K.len, Nat.add_mul]; omega)]
      have e : (i + 1) * K.k + j - (K.enc r).length = i * K.k + j := by rw [K.len, Nat.add_mul]; omega
      rw [e, ih i (by simpa using h)]
      rfl
theorem Kd.row_cell (l : List α) : ∀ u ∈ K.row l, u.oneCell' = true := by
  intro u hu
  obtain ⟨x, _, hx⟩ := List.mem_flatMap.1 hu
  exact K.cell x u hx
/-- A type of these elements, and the one of their slices. -/
structure Kd.Ty (E SL : TypeId) : Prop where
  info : ∃ (i : TypeInfo) (z : Value), Tryd.prog.info? E = some i ∧ i.zero = some z ∧ i.size = K.k ∧ i.bytes ≤ 140000 ∧ z.cells.size = K.k
  sl : Tryd.prog.underlying SL = some (.slice E)
/-- Elements that lie in memory, as a slice says. -/
def Kd.Rd (w : World) (A : Option Addr) (l : List α) : Prop :=
  l ≠ [] → ∃ g off, A = some ⟨g, off, none⟩ ∧ g < w.heap.size ∧ ∀ i, (h : i < l.length) → ∀ j, j < K.k → w.cell? ⟨g, off + i * K.k + j, none⟩ = (K.enc l[i])[j]?
variable {K}
theorem Kd.Rd.keep {B : Nat} {w w' : World} {A : Option Addr} {l : List α} (h : K.Rd w A l) (hb : Below B w w') (hB : w.heap.size ≤ B) : K.Rd w' A l := fun hn => by
  obtain ⟨g, off, e, hg, hc⟩ := h hn
  refine ⟨g, off, e, Nat.lt_of_lt_of_le hg hb.size, fun i hi j hj => ?_⟩
  exact (hb.cell (p := ⟨g, off + i * K.k + j, none⟩) (Nat.lt_of_lt_of_le hg hB)).trans (hc i hi j hj)
theorem Kd.Rd.kept {w w' : World} {A : Option Addr} {l : List α} (h : K.Rd w A l) (hb : Below w.heap.size w w') : K.Rd w' A l := h.keep hb (Nat.le_refl _)
/-- It lies below a bound, and so stays. -/
theorem Kd.Rd.under {B : Nat} {w w' : World} {A : Option Addr} {l : List α} (h : K.Rd w A l) (hA : ∀ a, A = some a → a.block < B) (hb : Below B w w') : K.Rd w' A l := fun hn => by
  obtain ⟨g, off, e, hg, hc⟩ := h hn
  have hgB := hA _ e
  exact ⟨g, off, e, Nat.lt_of_lt_of_le hg hb.size, fun i hi j hj => (hb.cell (p := ⟨g, off + i * K.k + j, none⟩) hgB).trans (hc i hi j hj)⟩
theorem Kd.Rd.frm {S : Nat → Prop} {w w' : World} {A : Option Addr} {l : List α} (h : K.Rd w A l) (hf : Frm S w w') (hn : ∀ a, A = some a → ¬ S a.block) : K.Rd w' A l := fun hl => by
  obtain ⟨g, off, e, hg, hc⟩ := h hl
  exact ⟨g, off, e, Nat.lt_of_lt_of_le hg hf.size, fun i hi j hj => (hf.cell (p := ⟨g, off + i * K.k + j, none⟩) hg (hn ⟨g, off, none⟩ e)).trans (hc i hi j hj)⟩
theorem Kd.rd_nil (w : World) (A : Option Addr) : K.Rd w A [] := fun h => absurd rfl h
theorem Kd.rd_own {w : World} {base : Nat} {E : TypeId} {v : Value} {n : Nat} {l : List α} (h : w.ownsRow base E K.k v n (K.row l)) (hn : n = l.length) : ∃ A c, v = .slice A n c ∧ n ≤ c ∧ K.Rd w A l ∧ (∀ a, A = some a → base ≤ a.block ∧ a.block < w.heap.size ∧ a = ⟨a.block, 0, none⟩) := by
  subst hn
  have hw := h
  rcases h.2 with ⟨rfl, h0⟩ | ⟨g, cap, cur, rfl, hb, hg, hnc, _⟩
  · obtain rfl := List.eq_nil_of_length_eq_zero h0
    exact ⟨none, 0, rfl, Nat.le_refl _, Kd.rd_nil _ _, fun a e => by cases e⟩
  · have hlt := (hw.lt g rfl).2
    refine ⟨some ⟨g, 0, none⟩, cap, rfl, hnc, fun _ => ⟨g, 0, rfl, hlt, fun i hi j hj => ?_⟩, fun a e => by cases e; exact ⟨hb, hlt, rfl⟩⟩
    have hlt2 : i * K.k + j < l.length * K.k := Nat.lt_of_lt_of_le (by rw [show (i + 1) * K.k = i * K.k + K.k from by rw [Nat.add_mul]; omega]; omega : i * K.k + j < (i + 1) * K.k) (Nat.mul_le_mul_right _ (by omega))
    rw [Nat.zero_add, hw.cellAt (i * K.k + j) hlt2, K.row_at l i hi j hj]
theorem Kd.Rd.news {w : World} {ad : Addr} {l : List α} (h : K.Rd w (some ad) l) : ∀ j u, (K.row l)[j]? = some u → w.cell? (ad.add j) = some u := fun j u hu => by
  have hj : j < l.length * K.k := by
    have := (List.getElem?_eq_some_iff.1 hu).1
    rwa [K.row_len] at this
  have hl : l ≠ [] := by rintro rfl; simp at hj
  obtain ⟨g, off, e, hg, hc⟩ := h hl
  cases e
  have hi : j / K.k < l.length := (Nat.div_lt_iff_lt_mul K.pos).2 hj
  have e1 : j / K.k * K.k + j % K.k = j := Nat.div_add_mod' j K.k
  have := hc (j / K.k) hi (j % K.k) (Nat.mod_lt _ K.pos)
  rw [← K.row_at l (j / K.k) hi (j % K.k) (Nat.mod_lt _ K.pos), e1] at this
  have hadd : (⟨g, off, none⟩ : Addr).add j = ⟨g, off + (j / K.k) * K.k + j % K.k, none⟩ := by
    have hadd' : (⟨g, off, none⟩ : Addr).add j = ⟨g, off + j, none⟩ := by unfold Addr.add; split <;> simp_all
    rw [hadd', Nat.add_assoc, e1]
  rw [hadd, this]
  exact hu
theorem Kd.Rd.drop {w : World} {g off : Nat} {l : List α} (h : K.Rd w (some ⟨g, off, none⟩) l) (n : Nat) : K.Rd w (some ⟨g, off + n * K.k, none⟩) (l.drop n) := fun hl => by
  obtain ⟨g', off', e, hg, hc⟩ := h (by rintro rfl; simp at hl)
  cases e
  refine ⟨g, _, rfl, hg, fun i hi j hj => ?_⟩
  rw [List.length_drop] at hi
  have := hc (n + i) (by omega) j hj
  rw [List.getElem_drop, ← this]
  congr 2
  rw [Nat.add_mul]
  omega
theorem Kd.Rd.take {w : World} {A : Option Addr} {l : List α} (h : K.Rd w A l) (n : Nat) : K.Rd w A (l.take n) := fun hl => by
  obtain ⟨g', off', e, hg, hc⟩ := h (by rintro rfl; simp at hl)
  refine ⟨g', _, e, hg, fun i hi j hj => ?_⟩
  rw [List.length_take] at hi
  rw [List.getElem_take]
  exact hc i (by omega) j hj

/-- A row laid behind a row. -/
theorem Kd.append {E SL : TypeId} (F : K.Ty E SL) (W : World) (base : Nat) (v : Value) (n : Nat) (a b : List α) (ty : TypeId) (hn : n = a.length) (hown : W.ownsRow base E K.k v n (K.row a)) (A : Option Addr) (m c : Nat) (hm : m = b.length) (hA : A = none → m = 0 ∧ c = 0) (h2 : K.Rd W A b) (hb : n + m ≤ 1000000000) (hbase : base ≤ W.heap.size) :
    ∃ v' w', (Builtin.append_ #[SL, SL] ty #[v, .slice A m c]).run Tryd.prog W = .ok v' w' ∧ w'.ownsRow base E K.k v' (n + m) (K.row (a ++ b)) ∧ W.grownBy w' v.ownBlock ∧ (v'.ownBlock = v.ownBlock ∨ v'.ownBlock = some W.heap.size) := by
  subst hn
  subst hm
  obtain ⟨i0, z0, hi0, hz0, hz1, hz2, hz3⟩ := F.info
  cases A with
  | none =>
    obtain ⟨hn, rfl⟩ := hA rfl
    have e : b = [] := List.eq_nil_of_length_eq_zero hn
    subst e
    refine ⟨v, W, ?_, by simpa using hown, World.grownBy.refl W _, .inl rfl⟩
    rcases hown.2 with ⟨rfl, h0⟩ | ⟨g, cap, cur, rfl, _, _, hnc, _⟩
    · simp [Builtin.append_, run_underlying F.sl, sizeOf, typeInfo, hi0, Builtin.lenOf, Builtin.firstCells]
    · simp [Builtin.append_, run_underlying F.sl, sizeOf, typeInfo, hi0, Builtin.lenOf, Builtin.firstCells, hnc, storeCells]
  | some ad =>
    obtain ⟨v', w', e1, e2, e3, _, e5⟩ := run_append_own_at (P := Tryd.prog) W base SL ty E i0 z0 K.k i0.bytes F.sl hi0 hz0 hz1 rfl hz3 K.pos v a.length _ hown ad b.length c (K.row b) (K.row_len b) h2.news (K.row_cell b) (by simp only [maxLen]; omega) (Nat.le_trans (Nat.mul_le_mul hb hz2) (by decide)) hbase
    exact ⟨v', w', e1, by rw [K.row_append]; exact e2, e3, e5⟩
variable {ops : Array Oper} {o : Oper} {a : Act} {w : World} {Q : Exit → Act → World → Prop}
theorem val_of {w : World} {base : Nat} {e : TypeId} {size n : Nat} {v : Value} {xs : List Value} (h : w.ownsRow base e size v n xs) : ∃ A c, v = .slice A n c := by
  rcases h.2 with ⟨rfl, rfl⟩ | ⟨g, cap, cur, rfl, _⟩
  · exact ⟨_, _, rfl⟩
  · exact ⟨_, _, rfl⟩
/-- What append leaves: the row, and which blocks have turned. -/
def Kd.Grew (K : Kd α) (E : TypeId) (base : Nat) (v : Value) (n : Nat) (l : List α) (w : World) (v' : Value) (w' : World) : Prop :=
  w'.ownsRow base E K.k v' n (K.row l) ∧ w.grownBy w' v.ownBlock ∧ (v'.ownBlock = v.ownBlock ∨ v'.ownBlock = some w.heap.size) ∧ Below base w w'
theorem Kd.wpList_many {E SL : TypeId} (F : K.Ty E SL) {rest : List Oper} (hgd : o.guard = none) (s x : Operand) (ho : o.op = .call { callee := .builtin .append, args := #[s, x], argTypes := #[SL, SL] }) (base : Nat) (v : Value) (n : Nat) (l : List α) (hn : n = l.length) (hs : a.eval s = v) (hown : w.ownsRow base E K.k v n (K.row l))
    (A : Option Addr) (m c : Nat) (b : List α) (hm : m = b.length) (hA : A = none → m = 0 ∧ c = 0) (hx : a.eval x = .slice A m c) (h2 : K.Rd w A b) (hb : n + m ≤ 1000000000) (hbase : base ≤ w.heap.size)
    (h : ∀ A' c' w', K.Grew E base v (n + m) (l ++ b) w (.slice A' (n + m) c') w' → wpList Tryd.prog ops Q rest (a.put o.dst (.slice A' (n + m) c')) w') : wpList Tryd.prog ops Q (o :: rest) a w := by
  refine wpList_plain hgd fun _ hK => ?_
  obtain ⟨v', w', e1, e2, e3, e4⟩ := Kd.append F w base v n l b o.type hn hown A m c hm hA h2 hb hbase
  unfold Oper.wp execOp
  simp only [ho, resolve, invoke, builtin, Sem.run_bind, Sem.run_pure, Result.andThen_ok, List.map_toArray, List.map_cons, List.map_nil, hs, hx, e1]
  obtain ⟨A', c', rfl⟩ := val_of e2
  exact hK _ _ (h A' c' w' ⟨e2, e3, e4, (Below.refl base w).grown e3 hbase (own_ge hown)⟩)
theorem Kd.rd_block {w : World} {g : Nat} {E : TypeId} {r : α} (hg : w.heap[g]? = some (.cells (K.enc r).toArray E (0, 0))) : K.Rd w (some ⟨g, 0, none⟩) [r] := fun _ => by
  refine ⟨g, 0, rfl, lt_of_block hg, fun i hi j hj => ?_⟩
  have e0 : i = 0 := by simpa using hi
  subst e0
  have e : (0 + 0 * K.k + j) = j := by omega
  rw [e, cell_of_row w g j _ E (0, 0) hg]
  simp
theorem Kd.wpList_one {E SL : TypeId} (F : K.Ty E SL) {rest : List Oper} (hgd : o.guard = none) (s x : Operand) (ho : o.op = .call { callee := .builtin .append, args := #[s, x], argTypes := #[SL, SL] }) (base : Nat) (v : Value) (n : Nat) (l : List α) (hn : n = l.length) (hs : a.eval s = v)
    (hown : w.ownsRow base E K.k v n (K.row l)) (g : Nat) (r : α) (hx : a.eval x = .slice (some ⟨g, 0, none⟩) 1 1) (hg : w.heap[g]? = some (.cells (K.enc r).toArray E (0, 0))) (hb : n ≤ 100000000) (hbase : base ≤ w.heap.size)
    (h : ∀ A' c' w', K.Grew E base v (n + 1) (l ++ [r]) w (.slice A' (n + 1) c') w' → wpList Tryd.prog ops Q rest (a.put o.dst (.slice A' (n + 1) c')) w') : wpList Tryd.prog ops Q (o :: rest) a w :=
  Kd.wpList_many F hgd s x ho base v n l hn hs hown _ 1 1 [r] rfl (fun e => by cases e) hx (Kd.rd_block hg) (by omega) hbase h
/-- At a step of a region that draws its order. -/
theorem Kd.step_many {E SL : TypeId} (F : K.Ty E SL) {L : Act → World → Prop} {X : Prop} (hgd : o.guard = none) (s x : Operand) (ho : o.op = .call { callee := .builtin .append, args := #[s, x], argTypes := #[SL, SL] }) (base : Nat) (v : Value) (n : Nat) (l : List α) (hn : n = l.length) (hs : a.eval s = v) (hown : w.ownsRow base E K.k v n (K.row l))
    (A : Option Addr) (m c : Nat) (b : List α) (hm : m = b.length) (hA : A = none → m = 0 ∧ c = 0) (hx : a.eval x = .slice A m c) (h2 : K.Rd w A b) (hb : n + m ≤ 1000000000) (hbase : base ≤ w.heap.size)
    (h : ∀ A' c' w', K.Grew E base v (n + m) (l ++ b) w (.slice A' (n + m) c') w' → L (a.put o.dst (.slice A' (n + m) c')) w') : if Region.wanted o (yielded ops a.tmps) = true then Oper.wp Tryd.prog o a w L Q else X := by
  have hw : Region.wanted o (yielded ops a.tmps) = true := by simp [Region.wanted, hgd]
  rw [if_pos hw]
  obtain ⟨v', w', e1, e2, e3, e4⟩ := Kd.append F w base v n l b o.type hn hown A m c hm hA h2 hb hbase
  unfold Oper.wp execOp
  simp only [ho, resolve, invoke, builtin, Sem.run_bind, Sem.run_pure, Result.andThen_ok, List.map_toArray, List.map_cons, List.map_nil, hs, hx, e1]
  obtain ⟨A', c', rfl⟩ := val_of e2
  exact h A' c' w' ⟨e2, e3, e4, (Below.refl base w).grown e3 hbase (own_ge hown)⟩
theorem Kd.step_one {E SL : TypeId} (F : K.Ty E SL) {L : Act → World → Prop} {X : Prop} (hgd : o.guard = none) (s x : Operand) (ho : o.op = .call { callee := .builtin .append, args := #[s, x], argTypes := #[SL, SL] }) (base : Nat) (v : Value) (n : Nat) (l : List α) (hn : n = l.length) (hs : a.eval s = v)
    (hown : w.ownsRow base E K.k v n (K.row l)) (g : Nat) (r : α) (hx : a.eval x = .slice (some ⟨g, 0, none⟩) 1 1) (hg : w.heap[g]? = some (.cells (K.enc r).toArray E (0, 0))) (hb : n ≤ 100000000) (hbase : base ≤ w.heap.size)
    (h : ∀ A' c' w', K.Grew E base v (n + 1) (l ++ [r]) w (.slice A' (n + 1) c') w' → L (a.put o.dst (.slice A' (n + 1) c')) w') : if Region.wanted o (yielded ops a.tmps) = true then Oper.wp Tryd.prog o a w L Q else X :=
  Kd.step_many F hgd s x ho base v n l hn hs hown _ 1 1 [r] rfl (fun e => by cases e) hx (Kd.rd_block hg) (by omega) hbase h
/-- 'l = append(l, ..)' where l is a variable in a box. -/
theorem Kd.box_step {w V w7 : World} {lb base : Nat} {E T : TypeId} {v v' : Value} {n0 n : Nat} {l0 l : List α} (h1 : w.heap[lb]? = some (.cells #[v] T (0, 0))) (hlb : lb < base) (h2 : w.ownsRow base E K.k v n0 (K.row l0)) (hV : Below w.heap.size w V) (hG : K.Grew E base v n l V v' w7) :
    (w7.setCell ⟨lb, 0, none⟩ v').heap[lb]? = some (.cells #[v'] T (0, 0)) ∧ (w7.setCell ⟨lb, 0, none⟩ v').ownsRow base E K.k v' n (K.row l) ∧ Frm (fun x => x = lb ∨ v.ownBlock = some x) w (w7.setCell ⟨lb, 0, none⟩ v') ∧ Sub (fun x => x = lb ∨ v.ownBlock = some x) (fun x => x = lb ∨ v'.ownBlock = some x) w.heap.size := by
  obtain ⟨ho, hg, hat, -⟩ := hG
  have z1 := lt_of_block h1
  have zV := hV.size
  have hge := own_ge h2
  have hge7 := own_ge ho
  have hF : Frm (fun x => x = lb ∨ v.ownBlock = some x) w w7 := (frm_of_below hV).grown hg (fun k hk => .inl (.inr hk))
  have hq : w7.heap[lb]? = some (.cells #[v] T (0, 0)) := (hg.block _ (by omega) (fun e => by have := hge _ e.symm; omega)).trans ((hV.block _ z1).trans h1)
  refine ⟨one_setCell hq, ownsRow_setCell_other ho (fun e => by have := hge7 _ e; simp only at this; omega) _, hF.setCell (p := ⟨lb, 0, none⟩) (.inl (.inl rfl)) _, ?_⟩
  rintro x (rfl | hx)
  · exact .inl (.inl rfl)
  · rcases hat with e | e
    · exact .inl (.inr (by rw [← e]; exact hx))
    · rw [e] at hx
      simp only [Option.some.injEq] at hx
      exact .inr (by omega)
theorem Kd.ty_of {E SL : TypeId} {z : Value} {b : Nat} (h : (Tryd.prog.info? E).map (fun i => (i.zero, i.size, i.bytes)) = some (some z, K.k, b)) (hb : b ≤ 140000) (hz : z.cells.size = K.k) (sl : Tryd.prog.underlying SL = some (.slice E)) : K.Ty E SL := by
  obtain ⟨i, hi, e⟩ := Option.map_eq_some_iff.1 h
  simp only [Prod.mk.injEq] at e
  exact ⟨⟨i, z, hi, e.1, e.2.1, by omega, hz⟩, sl⟩
end

/-- A struct stored into a box of its own. -/
theorem wpList_row {ops : Array Oper} {rest : List Oper} {o : Oper} {a : Act} {w : World} {Q : Exit → Act → World → Prop} (hgd : o.guard = none) (ty : TypeId) (x y : Operand) (ho : o.op = .store ty x y)
    (g : Nat) (cells : Array Value) (hx : a.eval x = .pointer (some ⟨g, 0, none⟩)) (hy : a.eval y = .agg cells)
    (t : TypeId) (old : Array Value) (hg : w.heap[g]? = some (.cells old t (0, 0))) (k : Nat) (hi : (Tryd.prog.info? ty).map (·.size) = some k) (hk : cells.size = k)
    (hold : old.size = k) (h1 : cells.toList.all (·.oneCell') = true)
    (h : ∀ w', w'.heap[g]? = some (.cells cells t (0, 0)) → Frm (fun b => b = g) w w' → wpList Tryd.prog ops Q rest (a.put o.dst undef) w') : wpList Tryd.prog ops Q (o :: rest) a w :=
  wpList_store_row hgd ty x y ho g cells hx hy t old hg (by rw [hk]; exact hi) (by rw [hk]; exact hold) (by rw [← Array.all_toList]; exact h1) (h _ (setRow_heap w g old cells t _ hg) ⟨rfl, rfl, rfl, by simp [World.setRow], fun k _ hn => setRow_other w g k cells hn⟩)

/-- Where a part of a row lies. -/
def cutK (s : Nat) (A : Option Addr) (c k : Nat) : Option Addr := if c = k then A else A.map (·.add (k * s))
section
variable {α : Type} {K : Kd α}
theorem Kd.slice_lh {E SL : TypeId} (F : K.Ty E SL) (A : Option Addr) (n c : Nat) (l h : Int) (h0 : 0 ≤ l) (h1 : l ≤ h) (h2 : h ≤ c) (w : World) :
    (Instr.slice SL (.slice A n c) (some (.int .i64 l)) (some (.int .i64 h)) none).run Tryd.prog w = .ok (.slice (cutK K.k A c l.toNat) (h.toNat - l.toNat) (c - l.toNat)) w := by
  obtain ⟨i0, z0, hi0, hz0, hz1, hz2, hz3⟩ := F.info
  have e : Tryd.prog.elem SL = E := by simp [Program.elem, F.sl]
  rw [run_slice_lh w SL A n c (by rw [e]; exact F.sl) .i64 .i64 l h h0 h1 h2, e]
  simp [sizeOf, typeInfo, hi0, hz1, cutK, sliced]
theorem Kd.slice_to {E SL : TypeId} (F : K.Ty E SL) (A : Option Addr) (n c : Nat) (h : Int) (h0 : 0 ≤ h) (h2 : h ≤ c) (w : World) :
    (Instr.slice SL (.slice A n c) none (some (.int .i64 h)) none).run Tryd.prog w = .ok (.slice A h.toNat c) w := by
  obtain ⟨i0, z0, hi0, hz0, hz1, hz2, hz3⟩ := F.info
  have e : Tryd.prog.elem SL = E := by simp [Program.elem, F.sl]
  rw [run_slice_h w SL A n c (by rw [e]; exact F.sl) .i64 h h0 h2, e]
  have ez : A.map (fun x => x.add 0) = A := by
    cases A with
    | none => rfl
    | some x => obtain ⟨g, o, r⟩ := x; cases r <;> simp [Addr.add]
  simp [sizeOf, typeInfo, hi0, hz1, sliced, ez]
theorem Kd.slice_from {E SL : TypeId} (F : K.Ty E SL) (A : Option Addr) (n c : Nat) (l : Int) (h0 : 0 ≤ l) (h1 : l ≤ n) (w : World) :
    (Instr.slice SL (.slice A n c) (some (.int .i64 l)) none none).run Tryd.prog w = .ok (.slice (cutK K.k A c l.toNat) (n - l.toNat) (c - l.toNat)) w := by
  obtain ⟨i0, z0, hi0, hz0, hz1, hz2, hz3⟩ := F.info
  have e : Tryd.prog.elem SL = E := by simp [Program.elem, F.sl]
  rw [run_slice_l w SL A n c (by rw [e]; exact F.sl) .i64 l h0 h1, e]
  simp [sizeOf, typeInfo, hi0, hz1, cutK, sliced]
theorem Kd.Rd.cut {w : World} {A : Option Addr} {l : List α} (h : K.Rd w A l) (c k : Nat) (hc : l.length ≤ c) : K.Rd w (cutK K.k A c k) (l.drop k) := fun hl => by
  have hk : k < l.length := by
    rcases Nat.lt_or_ge k l.length with e | e
    · exact e
    · exact absurd (List.drop_eq_nil_of_le e) hl
  obtain ⟨g, off, rfl, -⟩ := h (by rintro rfl; cases hk)
  have e : cutK K.k (some ⟨g, off, none⟩) c k = some ⟨g, off + k * K.k, none⟩ := by
    unfold cutK
    rw [if_neg (by omega), Option.map_some]
    congr 1
    unfold Addr.add
    split <;> simp_all
  rw [e]
  exact h.drop k hl
end

end Go.Proofs.YtfebhfghjdedhaaDoor

namespace Go.Proofs.YtfebhfghjdedhaaDoor
open Go.RowKit
set_option maxRecDepth 100000

theorem own_empty {w : World} {g : Nat} {E : TypeId} {k : Nat} (hg : w.heap[g]? = some (.cells #[] E (0, 0))) (base : Nat) (hb : base ≤ g) : w.ownsRow base E k (.slice (some ⟨g, 0, none⟩) 0 0) 0 [] :=
  ⟨by simp, .inr ⟨g, 0, #[], rfl, hb, hg, Nat.le_refl _, Nat.zero_le _, by simp, by simp⟩⟩
theorem own_low {w : World} {base base' : Nat} {e : TypeId} {size n : Nat} {v : Value} {xs : List Value} (h : w.ownsRow base e size v n xs) (hb : base' ≤ base) : w.ownsRow base' e size v n xs := by
  refine ⟨h.1, h.2.imp id ?_⟩
  rintro ⟨g, cap, cur, e1, e2, e3⟩
  exact ⟨g, cap, cur, e1, Nat.le_trans hb e2, e3⟩
theorem own_far {w : World} {base : Nat} {e : TypeId} {size n : Nat} {v : Value} {xs : List Value} (h : w.ownsRow base e size v n xs) {p : Addr} (hp : p.block < base) (u : Value) : (w.setCell p u).ownsRow base e size v n xs :=
  ownsRow_setCell_other h (fun e => by have := own_ge h _ e; omega) u
theorem row4_set {w : World} {b : Nat} {x0 x1 x2 x3 y0 y1 y2 y3 : Value} {e : TypeId} (h : w.heap[b]? = some (.cells #[x0, x1, x2, x3] e (0, 0))) :
    ((((w.setCell ⟨b, 0, none⟩ y0).setCell ⟨b, 1, none⟩ y1).setCell ⟨b, 2, none⟩ y2).setCell ⟨b, 3, none⟩ y3).heap[b]? = some (.cells #[y0, y1, y2, y3] e (0, 0)) :=
  heap_setCell_same _ b 3 _ e y3 (heap_setCell_same _ b 2 _ e y2 (heap_setCell_same _ b 1 _ e y1 (heap_setCell_same w b 0 _ e y0 h)))
theorem far_apart {w6 w10 V w14 : World} {o6 o14 : Option Nat} {n : Nat} (h1 : Below w6.heap.size w6 w10) (h2 : Below w10.heap.size w10 V) (_ : Below V.heap.size V w14) (hl : ∀ b, o6 = some b → b < w6.heap.size) (hn : 0 < n → ∀ b, o14 = some b → V.heap.size ≤ b) : 0 < n → ∀ b, o6 = some b → o14 ≠ some b := fun h0 b e1 e2 => by
  have := hl b e1
  have := hn h0 b e2
  have := h1.size
  have := h2.size
  omega
theorem apart_zero {w : World} {base m c6 c14 n : Nat} {E E' : TypeId} {A6 A14 : Option Addr} {xs ys : List Value} (hA : w.ownsRow base E 1 (.slice A6 m c6) m xs) (hC : w.ownsRow base E' 1 (.slice A14 n c14) n ys) (hm : 0 < m) (h0 : c14 = 0) : ∀ b, (Value.slice A6 m c6).ownBlock = some b → (Value.slice A14 n c14).ownBlock ≠ some b := by
  subst h0
  intro b e1 e2
  rcases hA.2 with ⟨e, -⟩ | ⟨g, cap, cur, e, -, h1, h2, -, h3, -⟩
  · simp at e
    omega
  · rcases hC.2 with ⟨e', -⟩ | ⟨g', cap', cur', e', -, h1', h2', -, h3', -⟩
    · rw [e'] at e2
      simp [Value.ownBlock] at e2
    · rw [e] at e1
      rw [e'] at e2
      simp only [Value.ownBlock, Option.some.injEq] at e1 e2
      subst e1
      subst e2
      rw [h1] at h1'
      simp only [Option.some.injEq, Obj.cells.injEq, and_true] at h1'
      simp only [Value.slice.injEq] at e'
      rw [← h1'.1] at h3'
      omega
/-- A fresh empty row lies there. -/
def Emp (w : World) (g : Nat) (T : TypeId) : Prop := w.heap[g]? = some (.cells #[] T (0, 0))
theorem Emp.made {w : World} {g : Nat} {T : TypeId} (h : g = w.heap.size) : Emp (w.alloc (.cells #[] T (0, 0))) g T := hp_new h
theorem Emp.drew {w : World} {g : Nat} {T : TypeId} (h : Emp w g T) : Emp w.drew g T := h
theorem Emp.alloc {w : World} {g : Nat} {T : TypeId} {o : Obj} (h : Emp w g T) : Emp (w.alloc o) g T := hp_old (lt_of_block h) h
theorem Emp.below {w w' : World} {g : Nat} {T : TypeId} (h : Emp w g T) (hb : Below w.heap.size w w') : Emp w' g T := (hb.block _ (lt_of_block h)).trans h
theorem below_alloc {B : Nat} {a w : World} {o : Obj} (h : Below B a w) (hB : B ≤ a.heap.size) : Below B a (w.alloc o) := h.alloc (Nat.le_trans hB h.size) o
section
variable {α : Type} {K : Kd α}
theorem Kd.append0 {E SL : TypeId} (F : K.Ty E SL) (W : World) (base g : Nat) (hg : W.heap[g]? = some (.cells #[] E (0, 0))) (hbg : base ≤ g) (b : List α) (ty : TypeId) (A : Option Addr) (m c : Nat) (hm : m = b.length) (hA : A = none → m = 0 ∧ c = 0) (h2 : K.Rd W A b) (hb : m ≤ 1000000000) :
    ∃ v' w', (Builtin.append_ #[SL, SL] ty #[.slice (some ⟨g, 0, none⟩) 0 0, .slice A m c]).run Tryd.prog W = .ok v' w' ∧ w'.ownsRow base E K.k v' m (K.row b) ∧ Below W.heap.size W w' ∧ (0 < m → ∀ k, v'.ownBlock = some k → W.heap.size ≤ k) ∧ (m = 0 → v' = .slice (some ⟨g, 0, none⟩) 0 0) := by
  obtain ⟨i0, z0, hi0, hz0, hz1, hz2, hz3⟩ := F.info
  have hgz := lt_of_block hg
  rcases Nat.eq_zero_or_pos m with h0 | h0
  · subst h0
    have e : b = [] := List.eq_nil_of_length_eq_zero hm.symm
    subst e
    refine ⟨.slice (some ⟨g, 0, none⟩) 0 0, W, ?_, own_empty hg base hbg, Below.refl _ _, fun h => absurd h (Nat.lt_irrefl _), fun _ => rfl⟩
    cases A with
    | none => simp [Builtin.append_, run_underlying F.sl, sizeOf, typeInfo, hi0, Builtin.lenOf, Builtin.firstCells, storeCells]
    | some ad => simp [Builtin.append_, run_underlying F.sl, sizeOf, typeInfo, hi0, Builtin.lenOf, Builtin.firstCells, storeCells, loadCells, loadCellsFrom]
  · cases A with
    | none => have := (hA rfl).1; omega
    | some ad =>
      subst hm
      have hsize : base ≤ W.heap.size := by omega
      have hown := own_empty (k := K.k) hg base hbg
      obtain ⟨v', w', e1, e2, e3, _, e5⟩ := run_append_own_at (P := Tryd.prog) W base SL ty E i0 z0 K.k i0.bytes F.sl hi0 hz0 hz1 rfl hz3 K.pos _ 0 [] hown ad b.length c (K.row b) (K.row_len b) h2.news (K.row_cell b) (by simp only [maxLen]; omega) (by rw [Nat.zero_add]; exact Nat.le_trans (Nat.mul_le_mul hb hz2) (by decide)) hsize
      have hr := run_append_grow (P := Tryd.prog) W SL ty E i0 z0 F.sl hi0 hz0 ⟨g, 0, none⟩ 0 0 [] (by simp) (fun j u hj => by simp at hj) ad b.length c (K.row b) (by rw [hz1]; exact K.row_len b) h2.news (by omega) (by omega) (growslice_fits (by omega) (by rw [Nat.zero_add]; exact Nat.le_trans (Nat.mul_le_mul hb hz2) (by decide)))
      rw [e1] at hr
      simp only [Result.ok.injEq] at hr
      obtain ⟨rfl, rfl⟩ := hr
      exact ⟨_, _, e1, by simpa using e2, ((Below.refl _ _).drew).alloc (Nat.le_refl _) _, fun _ k hk => by simp only [Value.ownBlock, Option.some.injEq] at hk; omega, fun h => by omega⟩
variable {ops : Array Oper} {o : Oper} {a : Act} {w : World} {Q : Exit → Act → World → Prop}
theorem Kd.step_zero {E SL : TypeId} (F : K.Ty E SL) {L : Act → World → Prop} {X : Prop} (hgd : o.guard = none) (s x : Operand) (ho : o.op = .call { callee := .builtin .append, args := #[s, x], argTypes := #[SL, SL] }) (base g : Nat) (hs : a.eval s = .slice (some ⟨g, 0, none⟩) 0 0) (hg : Emp w g E) (hbg : base ≤ g)
    (A : Option Addr) (m c : Nat) (b : List α) (hm : m = b.length) (hA : A = none → m = 0 ∧ c = 0) (hx : a.eval x = .slice A m c) (h2 : K.Rd w A b) (hb : m ≤ 1000000000)
    (h : ∀ A' c' w', w'.ownsRow base E K.k (.slice A' m c') m (K.row b) → Below w.heap.size w w' → (0 < m → ∀ k, (Value.slice A' m c').ownBlock = some k → w.heap.size ≤ k) → (m = 0 → c' = 0) → L (a.put o.dst (.slice A' m c')) w') : if Region.wanted o (yielded ops a.tmps) = true then Oper.wp Tryd.prog o a w L Q else X := by
  have hw : Region.wanted o (yielded ops a.tmps) = true := by simp [Region.wanted, hgd]
  rw [if_pos hw]
  obtain ⟨v', w', e1, e2, e3, e4, e5⟩ := Kd.append0 F w base g hg hbg b o.type A m c hm hA h2 hb
  unfold Oper.wp execOp
  simp only [ho, resolve, invoke, builtin, Sem.run_bind, Sem.run_pure, Result.andThen_ok, List.map_toArray, List.map_cons, List.map_nil, hs, hx, e1]
  obtain ⟨A', c', rfl⟩ := val_of e2
  exact h A' c' w' e2 e3 e4 (fun h => by have := e5 h; simp only [Value.slice.injEq] at this; exact this.2.2)
end

end Go.Proofs.YtfebhfghjdedhaaDoor

namespace Go.Proofs.YtfebhfghjdedhaaDoor
open Go.RowKit
set_option maxRecDepth 100000

/-- Rows of bytes. -/
def btE (x : Int) : List Value := [.int .u8 x]
def KBt : Kd Int := ⟨btE, 1, by decide, fun _ => rfl, fun x u h => by simp [btE] at h; subst h; rfl⟩
theorem KBt_ty : KBt.Ty 5 36 := Kd.ty_of info_u8 (by omega) rfl Tryd.underlying36
theorem KBt_row (l : List Int) : KBt.row l = u8s l := by
  induction l with
  | nil => rfl
  | cons x l ih => rw [KBt.row_cons, ih]; rfl
/-- An address of eight groups. -/
def eightO (l : List UInt8) : Option Ad := (eightL l).map fun bs => fromv (at0 bs) true
theorem eightO_none {l : List UInt8} (h : eightL l = none) : eightO l = none := by unfold eightO; rw [h]; rfl
theorem eightO_some {l : List UInt8} {bs : List Int} (h : eightL l = some bs) : eightO l = some (fromv (at0 bs) true) := by unfold eightO; rw [h]; rfl
theorem some_bd {l : List UInt8} {a : List Int} (h : someL l = some a) : ∀ x ∈ a, 0 ≤ x ∧ x < 256 := by
  unfold someL at h
  by_cases h0 : l = []
  · rw [if_pos h0] at h
    obtain rfl := Option.some.inj h
    simp
  · rw [if_neg h0] at h
    have key : ∀ (ps : List (List UInt8)) (acc a : List Int), (∀ x ∈ acc, 0 ≤ x ∧ x < 256) → bytesGo two ps acc = some a → ∀ x ∈ a, 0 ≤ x ∧ x < 256 := by
      intro ps
      induction ps with
      | nil => intro acc a hacc ha; obtain rfl := Option.some.inj (show some acc = some a from ha); exact hacc
      | cons p ps ih =>
        intro acc a hacc ha
        cases hp : two p with
        | none => rw [bytesGo_none hp] at ha; cases ha
        | some bs =>
          rw [bytesGo_some hp] at ha
          refine ih _ _ ?_ ha
          intro x hx
          rcases List.mem_append.1 hx with hx | hx
          · exact hacc x hx
          · unfold two at hp
            cases hg : grpL p with
            | none => rw [hg] at hp; cases hp
            | some n =>
              rw [hg] at hp
              obtain ⟨n0, n1⟩ := grpL_bd hg
              obtain rfl := Option.some.inj hp
              simp only [List.mem_cons, List.not_mem_nil, or_false] at hx
              rcases hx with rfl | rfl <;> omega
    exact key _ _ _ (by simp) h
theorem eight_bd {l : List UInt8} {bs : List Int} (h : eightL l = some bs) : bs.length = 16 ∧ ∀ x ∈ bs, 0 ≤ x ∧ x < 256 := by
  unfold eightL at h
  split at h
  · cases hs : someL l with
    | none => rw [hs] at h; cases h
    | some b =>
      rw [hs] at h
      simp only at h
      split at h
      · rename_i hl
        obtain rfl := Option.some.inj h
        exact ⟨hl, some_bd hs⟩
      · cases h
  · generalize l.take (Lib.index l [58, 58]).toNat = x at h
    generalize l.drop ((Lib.index l [58, 58]).toNat + 2) = y at h
    cases hx : someL x with
    | none => rw [hx] at h; cases h
    | some a =>
      cases hy : someL y with
      | none => rw [hx, hy] at h; cases h
      | some b =>
        rw [hx, hy] at h
        simp only at h
        split at h
        · obtain rfl := Option.some.inj h
          refine ⟨by simp; omega, fun z hz => ?_⟩
          rcases List.mem_append.1 hz with hz | hz
          · rcases List.mem_append.1 hz with hz | hz
            · exact some_bd hx z hz
            · obtain ⟨-, rfl⟩ := List.mem_replicate.1 hz
              omega
          · exact some_bd hy z hz
        · cases h
theorem some_len {l : List UInt8} {a : List Int} (h : someL l = some a) (hl : l.length ≤ 1000) : a.length ≤ 2002 := by
  rcases someL_len l a h with ⟨_, rfl⟩ | ⟨_, h⟩
  · simp
  · have := spl_le 58 l []
    omega
theorem own_nilB {w : World} {base : Nat} {e : TypeId} {size n c : Nat} {A : Option Addr} {xs : List Value} (h : w.ownsRow base e size (.slice A n c) n xs) : A = none → n = 0 ∧ c = 0 := by
  rintro rfl
  rcases h.2 with ⟨e1, -⟩ | ⟨g, cap, cur, e1, -⟩
  · simp at e1
    exact e1
  · simp at e1
theorem ext_take (s : ByteArray) (i : Nat) : (s.extract 0 i).data.toList = s.data.toList.take i := by rw [ext_seg]; simp
theorem ext_drop (s : ByteArray) (i : Nat) : (s.extract i s.size).data.toList = s.data.toList.drop i := by
  rw [ext_seg]
  have : s.data.toList.length = s.size := by simp
  rw [bl, List.take_of_length_le (by rw [List.length_drop]; omega)]
theorem ext_len (s : ByteArray) (i j : Nat) : (s.extract i j).size ≤ s.size := by simp [ByteArray.size_extract]; omega
theorem eight_one {l : List UInt8} (h : Lib.index l [58, 58] < 0) : eightL l = (match someL l with | some b => if b.length = 16 then some b else none | none => none) := by unfold eightL; rw [if_pos h]; cases someL l <;> rfl
theorem eight_two {l : List UInt8} {I : Nat} (h : Lib.index l [58, 58] = (I : Int)) : eightL l = (match someL (l.take I), someL (l.drop (I + 2)) with
    | some a, some b => if a.length + b.length ≤ 14 then some (a ++ List.replicate (16 - a.length - b.length) 0 ++ b) else none
    | _, _ => none) := by
  unfold eightL
  rw [if_neg (by omega), h]
  rfl
set_option maxHeartbeats 4000000 in
theorem refEight_any (s : ByteArray) (hs : s.size ≤ 1000) (w : World) :
    Calls Tryd.prog 17 #[.string s] w fun e w' => e = .returned (.tuple #[.agg #[.int .u64 (u ((eightO s.data.toList).getD ad0).hi), .int .u64 (u ((eightO s.data.toList).getD ad0).lo), .bool ((eightO s.data.toList).getD ad0).v6], .int .i64 (erA (eightO s.data.toList))]) ∧ Below w.heap.size w w' := by
  obtain ⟨i0, hi0, hz0, hz1, hz2⟩ := info_parts info_u8
  have ls : s.data.toList.length = s.size := by simp
  have ci := fun w => refIndex_any s ⟨#[58, 58]⟩ (by simp) (by omega) (by decide) w
  have hroom := Lib.index_room s.data.toList [58, 58]
  have hge := Lib.index_ge s.data.toList [58, 58]
  go_enter Tryd.func17, Tryd.ntmps17
  go_wp2_with fail
  generalize hW1 : World.alloc _ _ = W1
  have z1 : w.heap.size < W1.heap.size := by subst hW1; go_size
  have b1 : Below w.heap.size w W1 := by subst hW1; go_grown
  obtain ⟨pa, pb, pc, pd, pe, pf, pz⟩ : Box W1 w.heap.size ad0 := by
    subst hW1
    refine ⟨?_, ?_, ?_, ?_, ?_, ?_, ?_⟩ <;> first | (go_simp; done) | (go_simp <;> rfl) | go_size
  clear hW1
  refine (ci W1).mono ?_
  rintro e w2 ⟨rfl, rfl⟩
  by_cases hneg : Lib.index s.data.toList [58, 58] < 0
  · have hE := eight_one hneg
    obtain ⟨I, hI⟩ : ∃ I, Lib.index s.data.toList [58, 58] = I := ⟨_, rfl⟩
    rw [hI] at hneg ⊢
    clear hroom hge hI ci
    have HE := Lib.hid hE
    clear hE
    go_wp2_with fail
    refine (refSome_any s hs w2).mono ?_
    rintro e w3 ⟨v3, rfl, hown3, hw3⟩
    obtain ⟨qa, qb, qc, qd, qe, qf, qz⟩ := cells3 hw3 pz pa pb pc pd pe pf
    have b3 := b1.trans (hw3.mono (Nat.le_of_lt z1))
    obtain ⟨A3, c3, rfl⟩ := own_form hown3
    clear pa pb pc pd pe pf pz
    cases hS : someL s.data.toList with
    | none =>
      have HR := Lib.hid (eightO_none (by rw [HE.out, hS]))
      clear hS hown3 HE
      go_wp2
      refine bodyPost_ret (v := .tuple #[.agg #[.int .u64 0, .int .u64 0, .bool false], .int .i64 5]) (by simp [*, results, Tryd.results17, go_sem] <;> rfl) rfl ⟨by rw [HR.out]; rfl, ?_⟩
      go_grown
    | some bs =>
      rw [hS] at hown3
      simp only [Option.getD_some] at hown3
      by_cases h16 : bs.length = 16
      · have hE2 : eightL s.data.toList = some bs := by rw [HE.out, hS]; simp [h16]
        have HR := Lib.hid (eightO_some hE2)
        have hall := (eight_bd hE2).2
        obtain ⟨g3, cap3, hv3, hgb3, hgl3⟩ := hown3.form (by omega)
        have hcl3 := hown3.cells (g := g3) (by rw [hv3]; rfl)
        have cf := refFrom_any true g3 0 cap3 (at0 bs) (fun j hj => at0_bd hall j (by rw [h16]; exact hj)) w3 hgl3 (fun j hj => by
          have e := hcl3 j _ (u8s_at bs j (by rw [h16]; exact hj))
          rw [addr_add] at e
          exact e)
        rw [show nb true = 16 from rfl] at cf
        simp only [Value.slice.injEq, true_and] at hv3
        obtain ⟨rfl, rfl⟩ := hv3
        have HCF := Lib.hid cf
        clear hS hown3 HE hE2 hall hcl3 cf
        simp only [Option.getD_some, Option.isSome_some]
        rw [h16]
        clear h16
        go_wp2_with fail
        refine HCF.out.mono ?_
        rintro e w4 ⟨rfl, hw4⟩
        obtain ⟨ta, tb, tc, td, te, tf, tz⟩ := cells3 hw4 qz qa qb qc qd qe qf
        have b4 := b3.trans (hw4.mono (by omega))
        clear qa qb qc qd qe qf qz
        go_wp2
        refine bodyPost_ret (v := .tuple #[.agg #[.int .u64 (u (fromv (at0 bs) true).hi), .int .u64 (u (fromv (at0 bs) true).lo), .bool (fromv (at0 bs) true).v6], .int .i64 0]) (by simp [*, results, Tryd.results17, go_sem] <;> rfl) rfl ⟨by rw [HR.out]; rfl, ?_⟩
        go_grown
      · have HR := Lib.hid (eightO_none (by rw [HE.out, hS]; simp [h16]))
        have h16' : ((bs.length : Int) != 16) = true := by rw [bne_iff_ne]; omega
        clear hS hown3 HE h16
        go_wp2
        refine bodyPost_ret (v := .tuple #[.agg #[.int .u64 0, .int .u64 0, .bool false], .int .i64 5]) (by simp [*, results, Tryd.results17, go_sem] <;> rfl) rfl ⟨by rw [HR.out]; rfl, ?_⟩
        go_grown
  · obtain ⟨I, hI⟩ : ∃ I : Nat, Lib.index s.data.toList [58, 58] = (I : Int) := ⟨(Lib.index s.data.toList [58, 58]).toNat, by omega⟩
    have hE := eight_two hI
    have hr := hroom (by omega)
    rw [hI] at hr ⊢
    simp only [List.length_cons, List.length_nil] at hr
    have i1 : (I : Int) ≤ (s.size : Int) := by omega
    have i2 : (I : Int) + 2 ≤ (s.size : Int) := by omega
    have i3 : ¬ (I : Int) < 0 := by omega
    have cA := fun W => refSome_any (s.extract 0 I) (Nat.le_trans (ext_len s 0 I) hs) W
    have cB := fun W => refSome_any (s.extract (I + 2) s.size) (Nat.le_trans (ext_len s (I + 2) s.size) hs) W
    rw [ext_take] at cA
    rw [ext_drop] at cB
    have HE := Lib.hid hE
    have CA := Lib.hid cA
    have CB := Lib.hid cB
    clear hroom hge hI ci hneg hE hr cA cB
    have hxl : (s.data.toList.take I).length ≤ 1000 := by rw [List.length_take]; omega
    have hyl : (s.data.toList.drop (I + 2)).length ≤ 1000 := by rw [List.length_drop]; omega
    generalize s.data.toList.take I = x at HE CA hxl
    generalize s.data.toList.drop (I + 2) = y at HE CB hyl
    go_wp2_with fail
    refine (CA.out w2).mono ?_
    rintro e w3 ⟨v3, rfl, hown3, hw3⟩
    obtain ⟨qa, qb, qc, qd, qe, qf, qz⟩ := cells3 hw3 pz pa pb pc pd pe pf
    have b3 := b1.trans (hw3.mono (Nat.le_of_lt z1))
    have z3 := hw3.size
    obtain ⟨A3, c3, rfl⟩ := own_form hown3
    have Hown3 := Lib.hid hown3
    clear pa pb pc pd pe pf pz CA hown3
    go_wp2_with fail
    refine (CB.out w3).mono ?_
    rintro e w4 ⟨v4, rfl, hown4, hw4⟩
    obtain ⟨pa, pb, pc, pd, pe, pf, pz⟩ := cells3 hw4 qz qa qb qc qd qe qf
    have z4 := hw4.size
    have b4 := b3.trans (hw4.mono (by omega))
    obtain ⟨A4, c4, rfl⟩ := own_form hown4
    have Hown3' := Lib.hid (own_keep Hown3.out hw4)
    have Hown4 := Lib.hid hown4
    clear qa qb qc qd qe qf qz CB hown4
    cases hX : someL x with
    | none =>
      have HR := Lib.hid (eightO_none (by rw [HE.out, hX]))
      clear hX HE
      go_wp2
      refine bodyPost_ret (v := .tuple #[.agg #[.int .u64 0, .int .u64 0, .bool false], .int .i64 5]) (by simp [*, results, Tryd.results17, go_sem] <;> rfl) rfl ⟨by rw [HR.out]; rfl, ?_⟩
      go_grown
    | some a =>
      cases hY : someL y with
      | none =>
        have HR := Lib.hid (eightO_none (by rw [HE.out, hX, hY]))
        clear hX hY HE
        go_wp2
        refine bodyPost_ret (v := .tuple #[.agg #[.int .u64 0, .int .u64 0, .bool false], .int .i64 5]) (by simp [*, results, Tryd.results17, go_sem] <;> rfl) rfl ⟨by rw [HR.out]; rfl, ?_⟩
        go_grown
      | some b =>
        have o3 := Hown3'.out
        have o4 := Hown4.out
        rw [hX] at o3
        rw [hY] at o4
        simp only [Option.getD_some] at o3 o4
        have la9 := some_len hX hxl
        have lb9 := some_len hY hyl
        have la8 : (a.length : Int) ≤ 2002 := by omega
        have lb8 : (b.length : Int) ≤ 2002 := by omega
        by_cases h14 : a.length + b.length ≤ 14
        · obtain ⟨k, hk⟩ : ∃ k, k = 16 - a.length - b.length := ⟨_, rfl⟩
          have hE2 : eightL s.data.toList = some (a ++ List.replicate k 0 ++ b) := by rw [HE.out, hX, hY, hk]; simp only; rw [if_pos h14]
          have HR := Lib.hid (eightO_some hE2)
          obtain ⟨h16, hall⟩ := eight_bd hE2
          have HALL := Lib.hid hall
          have H16 := Lib.hid h16
          have h14' : ¬ (14 : Int) < (a.length : Int) + (b.length : Int) := by omega
          have hkz : (16 : Int) - (a.length : Int) - (b.length : Int) = (k : Int) := by omega
          have hk200 : a.length + k ≤ 200 := by omega
          rw [← KBt_row] at o3 o4
          have n3 : A3 = none → a.length = 0 ∧ c3 = 0 := own_nilB o3
          have n4 : A4 = none → b.length = 0 ∧ c4 = 0 := own_nilB o4
          obtain ⟨A3', c3', e3, -, r3, -⟩ := KBt.rd_own o3 rfl
          obtain ⟨A4', c4', e4, -, r4, -⟩ := KBt.rd_own o4 rfl
          simp only [Value.slice.injEq, true_and] at e3 e4
          rw [← e3.1] at r3
          rw [← e4.1] at r4
          have R3 := Lib.hid r3
          have R4 := Lib.hid r4
          have N3 := Lib.hid n3
          have N4 := Lib.hid n4
          have HKZ := Lib.hid hkz
          clear hX hY HE hE2 hall h16 o3 o4 e3 e4 r3 r4 n3 n4 hk Hown3 Hown3' Hown4 hkz
          go_upto_region 12 with (
            at_builtin
            refine Kd.wpList_many KBt_ty rfl (.tmp 63) (.tmp 64) rfl w4.heap.size _ 0 [] rfl (by rfl) (own_empty (hp_new rfl) _ (Nat.le_refl _)) A3 a.length c3 a rfl N3.out (by rfl) (R3.out.kept (by go_grown)) (by omega) (by simp) ?_
            intro A5 c5 w5 hG
            have hO5 : w5.ownsRow w4.heap.size 5 1 (.slice A5 a.length c5) a.length (u8s a) := by
              have := hG.1
              rw [Nat.zero_add, List.nil_append, KBt_row] at this
              exact this
            have hB5 : Below w4.heap.size w4 w5 := ((Below.refl _ _).alloc (Nat.le_refl _) _).trans hG.2.2.2
            rw [Nat.zero_add]
            clear hG
            )
          obtain ⟨v6, w6, hr6, hown6, hg6, -⟩ := run_append_zeros w5 w4.heap.size 36 3 9 36 5 i0 .i64 .i64 Tryd.underlying36 Tryd.underlying3 Tryd.underlying9 hi0 hz0 hz1 hz2 _ _ _ hO5 k hk200 hB5.size
          have hB6 : Below w4.heap.size w4 w6 := hB5.grown hg6 hB5.size (own_ge hO5)
          obtain ⟨A6, c6, rfl⟩ := own_form hown6
          rw [← u8s_append, ← KBt_row] at hown6
          have HO6 := Lib.hid hown6
          have HB6 := Lib.hid hB6
          have z6 := hB6.size
          have hl6 : (a ++ List.replicate k 0).length = a.length + k := by simp
          have HL6 := Lib.hid hl6
          have HK9 := Lib.hid hk200
          clear hO5 hB5 hown6 hB6 hg6 hl6 hk200
          go_upto_region 13 with (
            at_builtin
            refine wpList_append_run rfl (.tmp 66) (.tmp 72) _ _ rfl _ (.int .i64 (k : Int)) (.slice A6 (a.length + k) c6) w5 w6 rfl (by first | rfl | exact congrArg (Value.int .i64) HKZ.out) hr6 ?_
            )
          clear hr6
          go_upto_region 14 with (
            at_builtin
            refine Kd.wpList_many KBt_ty rfl (.tmp 74) (.tmp 75) rfl w4.heap.size _ (a.length + k) (a ++ List.replicate k 0) HL6.out.symm (by rfl) HO6.out A4 b.length c4 b rfl N4.out (by rfl) (R4.out.kept HB6.out) (by have := HK9.out; omega) z6 ?_
            intro A7 c7 w7 hG
            have hO7 : w7.ownsRow w4.heap.size 5 1 (.slice A7 (a.length + k + b.length) c7) (a.length + k + b.length) (u8s (a ++ List.replicate k 0 ++ b)) := by
              have := hG.1
              rw [KBt_row] at this
              exact this
            have hB7 : Below w4.heap.size w4 w7 := HB6.out.trans hG.2.2.2
            clear hG
            )
          have hl16 : a.length + k + b.length = 16 := by have := H16.out; simp only [List.length_append, List.length_replicate] at this; exact this
          rw [hl16] at hO7 ⊢
          generalize a ++ List.replicate k 0 ++ b = bs at HR HALL H16 hO7
          obtain ⟨g3, cap3, hv3, hgb3, hgl3⟩ := hO7.form (by omega)
          have hcl3 := hO7.cells (g := g3) (by rw [hv3]; rfl)
          have cf := refFrom_any true g3 0 cap3 (at0 bs) (fun j hj => at0_bd HALL.out j (by rw [H16.out]; exact hj)) w7 hgl3 (fun j hj => by
            have e := hcl3 j _ (u8s_at bs j (by rw [H16.out]; exact hj))
            rw [addr_add] at e
            exact e)
          rw [show nb true = 16 from rfl] at cf
          simp only [Value.slice.injEq, true_and] at hv3
          obtain ⟨rfl, rfl⟩ := hv3
          have HCF := Lib.hid cf
          obtain ⟨qa, qb, qc, qd, qe, qf, qz⟩ := cells3 hB7 pz pa pb pc pd pe pf
          have b7 := b4.trans (hB7.mono (by omega))
          have z7 := hB7.size
          clear hO7 hB7 hcl3 cf hl16 pa pb pc pd pe pf pz N3 N4 R3 R4 HKZ HO6 HB6 HL6 HK9 HALL H16 la8 lb8 la9 lb9 h14 h14'
          go_wp2_with fail
          refine HCF.out.mono ?_
          rintro e w8 ⟨rfl, hw8⟩
          obtain ⟨ta, tb, tc, td, te, tf, tz⟩ := cells3 hw8 qz qa qb qc qd qe qf
          have b8 := b7.trans (hw8.mono (by omega))
          clear qa qb qc qd qe qf qz
          go_wp2
          refine bodyPost_ret (v := .tuple #[.agg #[.int .u64 (u (fromv (at0 bs) true).hi), .int .u64 (u (fromv (at0 bs) true).lo), .bool (fromv (at0 bs) true).v6], .int .i64 0]) (by simp [*, results, Tryd.results17, go_sem] <;> rfl) rfl ⟨by rw [HR.out]; rfl, ?_⟩
          go_grown
        · have HR := Lib.hid (eightO_none (by rw [HE.out, hX, hY]; simp only; rw [if_neg h14]))
          have h14' : (14 : Int) < (a.length : Int) + (b.length : Int) := by omega
          clear hX hY HE
          go_wp2
          refine bodyPost_ret (v := .tuple #[.agg #[.int .u64 0, .int .u64 0, .bool false], .int .i64 5]) (by simp [*, results, Tryd.results17, go_sem] <;> rfl) rfl ⟨by rw [HR.out]; rfl, ?_⟩
          go_grown

end Go.Proofs.YtfebhfghjdedhaaDoor

namespace Go.Proofs.YtfebhfghjdedhaaDoor
open Go.RowKit
set_option maxRecDepth 100000

set_option maxHeartbeats 2000000 in
theorem refParseAddr_any (s : ByteArray) (hs : s.size ≤ 1000) (w : World) :
    Calls Tryd.prog 6 #[.string s] w fun e w' => e = .returned (.tuple #[.agg #[.int .u64 (u ((parseA s.data.toList).getD ad0).hi), .int .u64 (u ((parseA s.data.toList).getD ad0).lo), .bool ((parseA s.data.toList).getD ad0).v6], .int .i64 (erA (parseA s.data.toList))]) ∧ Below w.heap.size w w' := by
  have ci := fun w => refIndex_any s ⟨#[58]⟩ (by simp) (by omega) (by decide) w
  have HE := Lib.hid (refA_eq s.data.toList)
  go_enter Tryd.func6, Tryd.ntmps6
  go_wp2_with fail
  generalize hW1 : World.alloc _ _ = W1
  have z1 : w.heap.size < W1.heap.size := by subst hW1; go_size
  have b1 : Below w.heap.size w W1 := by subst hW1; go_grown
  obtain ⟨pa, pb, pc, pd, pe, pf, pz⟩ : Box W1 w.heap.size ad0 := by
    subst hW1
    refine ⟨?_, ?_, ?_, ?_, ?_, ?_, ?_⟩ <;> first | (go_simp; done) | (go_simp <;> rfl) | go_size
  clear hW1
  refine (ci W1).mono ?_
  rintro e w2 ⟨rfl, rfl⟩
  by_cases hneg : 0 ≤ Lib.index s.data.toList [58]
  · have HR : Hid (eightO s.data.toList = parseA s.data.toList) := Lib.hid (by rw [← HE.out]; unfold refA eightO; rw [if_pos hneg])
    obtain ⟨I, hI⟩ : ∃ I, Lib.index s.data.toList [58] = I := ⟨_, rfl⟩
    rw [hI] at hneg ⊢
    have c8 := refEight_any s hs w2
    obtain ⟨a, ha⟩ : ∃ a, a = (eightO s.data.toList).getD ad0 := ⟨_, rfl⟩
    obtain ⟨n, hn⟩ : ∃ n, n = erA (eightO s.data.toList) := ⟨_, rfl⟩
    rw [← ha, ← hn] at c8
    have HA := Lib.hid ha
    have HN := Lib.hid hn
    clear hI ci HE ha hn
    go_wp2_with fail
    refine c8.mono ?_
    rintro e w3 ⟨rfl, hw3⟩
    obtain ⟨qa, qb, qc, qd, qe, qf, qz⟩ := cells3 hw3 pz pa pb pc pd pe pf
    have b3 := b1.trans (hw3.mono (Nat.le_of_lt z1))
    clear pa pb pc pd pe pf pz c8
    go_wp2
    refine bodyPost_ret (v := .tuple #[.agg #[.int .u64 (u a.hi), .int .u64 (u a.lo), .bool a.v6], .int .i64 n]) (by simp [*, results, Tryd.results6, go_sem] <;> rfl) rfl ⟨by rw [HA.out, HN.out, HR.out], ?_⟩
    go_grown
  · have HR : Hid (fourO s.data.toList = parseA s.data.toList) := Lib.hid (by rw [← HE.out]; unfold refA fourO; rw [if_neg hneg])
    obtain ⟨I, hI⟩ : ∃ I, Lib.index s.data.toList [58] = I := ⟨_, rfl⟩
    rw [hI] at hneg ⊢
    have c8 := refFour_any s hs w2
    obtain ⟨a, ha⟩ : ∃ a, a = (fourO s.data.toList).getD ad0 := ⟨_, rfl⟩
    obtain ⟨n, hn⟩ : ∃ n, n = erA (fourO s.data.toList) := ⟨_, rfl⟩
    rw [← ha, ← hn] at c8
    have HA := Lib.hid ha
    have HN := Lib.hid hn
    clear hI ci HE ha hn
    go_wp2_with fail
    refine c8.mono ?_
    rintro e w3 ⟨rfl, hw3⟩
    obtain ⟨qa, qb, qc, qd, qe, qf, qz⟩ := cells3 hw3 pz pa pb pc pd pe pf
    have b3 := b1.trans (hw3.mono (Nat.le_of_lt z1))
    clear pa pb pc pd pe pf pz c8
    go_wp2
    refine bodyPost_ret (v := .tuple #[.agg #[.int .u64 (u a.hi), .int .u64 (u a.lo), .bool a.v6], .int .i64 n]) (by simp [*, results, Tryd.results6, go_sem] <;> rfl) rfl ⟨by rw [HA.out, HN.out, HR.out], ?_⟩
    go_grown

theorem cut_no {l : List UInt8} (h : Lib.index l [47] < 0) : Lib.cut l [47] = (l, [], false) := by unfold Lib.cut; rw [if_neg (by omega)]
theorem cut_yes {l : List UInt8} {I : Nat} (h : Lib.index l [47] = (I : Int)) : Lib.cut l [47] = (l.take I, l.drop (I + 1), true) := by unfold Lib.cut; rw [if_pos (by omega), h]; rfl
set_option maxHeartbeats 4000000 in
theorem refParse_any (s : ByteArray) (hs : s.size ≤ 1000) (w : World) :
    Calls Tryd.prog 8 #[.string s] w fun e w' => e = .returned (.tuple #[.agg #[.int .u64 (u (parseP s.data.toList).1.a.hi), .int .u64 (u (parseP s.data.toList).1.a.lo), .bool (parseP s.data.toList).1.a.v6, .int .i64 (parseP s.data.toList).1.n], .int .i64 (parseP s.data.toList).2]) ∧ Below w.heap.size w w' := by
  have ls : s.data.toList.length = s.size := by simp
  have ci := fun w => refIndex_any s ⟨#[47]⟩ (by simp) (by omega) (by decide) w
  have hroom := Lib.index_room s.data.toList [47]
  have hge := Lib.index_ge s.data.toList [47]
  go_enter Tryd.func8, Tryd.ntmps8
  go_wp2_with fail
  generalize hW1 : World.alloc _ _ = W1
  have z1 : w.heap.size < W1.heap.size := by subst hW1; go_size
  have b1 : Below w.heap.size w W1 := by subst hW1; go_grown
  obtain ⟨pa, pb, pc, pg, pd, pe, pf, ph, pz⟩ : PBox W1 w.heap.size pf0 := by
    subst hW1
    refine ⟨?_, ?_, ?_, ?_, ?_, ?_, ?_, ?_, ?_⟩ <;> first | (go_simp; done) | (go_simp <;> rfl) | go_size
  clear hW1
  refine (ci W1).mono ?_
  rintro e w2 ⟨rfl, rfl⟩
  by_cases hneg : Lib.index s.data.toList [47] < 0
  · have HR := Lib.hid (parseP_none1 (l := s.data.toList) (by rw [cut_no hneg]))
    obtain ⟨I, hI⟩ : ∃ I, Lib.index s.data.toList [47] = I := ⟨_, rfl⟩
    rw [hI] at hneg ⊢
    clear hroom hge hI ci
    go_wp2
    refine bodyPost_ret (v := .tuple #[.agg #[.int .u64 0, .int .u64 0, .bool false, .int .i64 0], .int .i64 5]) (by simp [*, results, Tryd.results8, go_sem] <;> rfl) rfl ⟨by rw [HR.out]; rfl, ?_⟩
    go_grown
  · obtain ⟨I, hI⟩ : ∃ I : Nat, Lib.index s.data.toList [47] = (I : Int) := ⟨(Lib.index s.data.toList [47]).toNat, by omega⟩
    have hc := cut_yes hI
    have hr := hroom (by omega)
    have hG : (Lib.cut s.data.toList [47]).2.2 = true := by rw [hc]
    have hN2 : ∀ h, parseP s.data.toList = (pf0, 5) := fun h => parseP_none2 hG (by rw [hc]; exact h)
    have hN3 : ∀ a, parseA (s.data.toList.take I) = some a → numL 999 (s.data.toList.drop (I + 1)) = none → parseP s.data.toList = (pf0, 5) := fun a h1 h2 => parseP_none3 hG (by rw [hc]; exact h1) (by rw [hc]; exact h2)
    have hS : ∀ a n, parseA (s.data.toList.take I) = some a → numL 999 (s.data.toList.drop (I + 1)) = some n → parseP s.data.toList = if psane ⟨a, n⟩ = true then (⟨a, n⟩, 0) else (pf0, 1) := fun a n h1 h2 => parseP_some hG (by rw [hc]; exact h1) (by rw [hc]; exact h2)
    rw [hI] at hr ⊢
    simp only [List.length_cons, List.length_nil] at hr
    have i1 : (I : Int) ≤ (s.size : Int) := by omega
    have i2 : (I : Int) + 1 ≤ (s.size : Int) := by omega
    have i3 : ¬ (I : Int) < 0 := by omega
    have cA := fun W => refParseAddr_any (s.extract 0 I) (Nat.le_trans (ext_len s 0 I) hs) W
    have cB := fun W => refNumber_any (s.extract (I + 1) s.size) 999 (by omega) (by omega) (by have := ext_len s (I + 1) s.size; omega) W
    rw [ext_take] at cA
    rw [ext_drop] at cB
    have HN2 := Lib.hid hN2
    have HN3 := Lib.hid hN3
    have HS := Lib.hid hS
    clear hroom hge hI ci hneg hr hc hG hN2 hN3 hS
    generalize s.data.toList.take I = x at cA HN2 HN3 HS
    generalize s.data.toList.drop (I + 1) = y at cB HN3 HS
    have CA := Lib.hid cA
    have CB := Lib.hid cB
    clear cA cB
    have caW := CA.out w2
    obtain ⟨a, ha⟩ : ∃ a, a = (parseA x).getD ad0 := ⟨_, rfl⟩
    obtain ⟨er, her⟩ : ∃ n, n = erA (parseA x) := ⟨_, rfl⟩
    obtain ⟨nu, hnu⟩ : ∃ n, n = numR 999 y := ⟨_, rfl⟩
    have CB2 : Hid (∀ W : World, Calls Tryd.prog 22 #[.string (s.extract (I + 1) s.size), .int .i64 999] W fun e w' => e = .returned (.int .i64 nu) ∧ w' = W) := Lib.hid (fun W => by rw [hnu]; exact CB.out W)
    rw [← ha, ← her] at caW
    have HA := Lib.hid ha
    have HER := Lib.hid her
    have HNU := Lib.hid hnu
    clear ha her hnu CA CB
    go_wp2_with fail
    refine caW.mono ?_
    rintro e w3 ⟨rfl, hw3⟩
    have z3 := hw3.size
    have b3 := b1.trans (hw3.mono (by omega))
    obtain ⟨qa, qb, qc, qg, qd, qe, qf, qh, qz⟩ := cells4 hw3 pz pa pb pc pg pd pe pf ph
    clear pa pb pc pg pd pe pf ph pz caW
    go_wp2_with fail
    generalize hW4 : World.alloc _ _ = W4
    have z4 : w3.heap.size < W4.heap.size := by subst hW4; go_size
    have b4 : Below w3.heap.size w3 W4 := by subst hW4; go_grown
    obtain ⟨ra, rb, rc, rd, re, rf, rz⟩ : Box W4 w3.heap.size a := by
      subst hW4
      refine ⟨?_, ?_, ?_, ?_, ?_, ?_, ?_⟩ <;> first | (go_simp; done) | (go_simp <;> rfl) | go_size
    clear hW4
    obtain ⟨pa, pb, pc, pg, pd, pe, pf, ph, pz⟩ := cells4 b4 qz qa qb qc qg qd qe qf qh
    clear qa qb qc qg qd qe qf qh qz
    have b4' := b3.trans (b4.mono (by omega))
    refine (CB2.out W4).mono ?_
    rintro e w5 ⟨rfl, rfl⟩
    clear CB2
    cases hA : parseA x with
    | none =>
      have HR := Lib.hid (HN2.out hA)
      obtain rfl : er = 5 := by rw [HER.out, hA]; rfl
      clear hA HN2 HN3 HS HNU
      go_wp2
      refine bodyPost_ret (v := .tuple #[.agg #[.int .u64 0, .int .u64 0, .bool false, .int .i64 0], .int .i64 5]) (by simp [*, results, Tryd.results8, go_sem] <;> rfl) rfl ⟨by rw [HR.out]; rfl, ?_⟩
      go_grown
    | some a' =>
      obtain rfl : er = 0 := by rw [HER.out, hA]; rfl
      obtain rfl : a = a' := by rw [HA.out, hA]; rfl
      cases hN : numL 999 y with
      | none =>
        have HR := Lib.hid (HN3.out a hA hN)
        obtain rfl : nu = -1 := by rw [HNU.out, numR_none hN]
        clear hA hN HN2 HN3 HS HNU HER HA
        go_wp2
        refine bodyPost_ret (v := .tuple #[.agg #[.int .u64 0, .int .u64 0, .bool false, .int .i64 0], .int .i64 5]) (by simp [*, results, Tryd.results8, go_sem] <;> rfl) rfl ⟨by rw [HR.out]; rfl, ?_⟩
        go_grown
      | some n =>
        have hR := HS.out a n hA hN
        obtain rfl : nu = n := by rw [HNU.out, numR_some hN]
        obtain ⟨n0, n1⟩ := numL_bd (by omega) hN
        have n2 : ¬ nu < 0 := by omega
        clear hA hN HN2 HN3 HS HNU HER HA
        cases hP : psane ⟨a, nu⟩ with
        | true =>
          rw [hP, if_pos rfl] at hR
          have HR := Lib.hid hR
          clear hR
          go_wp2_with fail
          generalize hW6 : World.alloc _ _ = W6
          have z6 : w5.heap.size < W6.heap.size := by subst hW6; go_size
          have b6 : Below w5.heap.size w5 W6 := by subst hW6; go_grown
          obtain ⟨sa, sb, sc, sg, sd, se, sf, sh, sz⟩ : PBox W6 w5.heap.size ⟨a, nu⟩ := by
            subst hW6
            refine ⟨?_, ?_, ?_, ?_, ?_, ?_, ?_, ?_, ?_⟩ <;> first | (go_simp; done) | (go_simp <;> rfl) | go_size
          clear hW6
          obtain ⟨qa, qb, qc, qg, qd, qe, qf, qh, qz⟩ := cells4 b6 pz pa pb pc pg pd pe pf ph
          clear pa pb pc pg pd pe pf ph pz ra rb rc rd re rf rz
          have b6' := b4'.trans (b6.mono (by omega))
          have cs := rpsane_any ⟨a, nu⟩ W6
          rw [hP] at cs
          refine cs.mono ?_
          rintro e w7 ⟨rfl, hw7⟩
          have z7 := hw7.size
          have b7 := b6'.trans (hw7.mono (by omega))
          obtain ⟨pa, pb, pc, pg, pd, pe, pf, ph, pz⟩ := cells4 hw7 qz qa qb qc qg qd qe qf qh
          obtain ⟨ta, tb, tc, tg, td, te, tf, th, tz⟩ := cells4 hw7 sz sa sb sc sg sd se sf sh
          clear qa qb qc qg qd qe qf qh qz sa sb sc sg sd se sf sh sz cs hP
          go_wp2
          refine bodyPost_ret (v := .tuple #[.agg #[.int .u64 (u (⟨a, nu⟩ : Pf).a.hi), .int .u64 (u (⟨a, nu⟩ : Pf).a.lo), .bool (⟨a, nu⟩ : Pf).a.v6, .int .i64 (⟨a, nu⟩ : Pf).n], .int .i64 0]) (by simp [*, results, Tryd.results8, go_sem] <;> rfl) rfl ⟨by rw [HR.out], ?_⟩
          go_grown
        | false =>
          rw [hP, if_neg (by simp)] at hR
          have HR := Lib.hid hR
          clear hR
          go_wp2_with fail
          generalize hW6 : World.alloc _ _ = W6
          have z6 : w5.heap.size < W6.heap.size := by subst hW6; go_size
          have b6 : Below w5.heap.size w5 W6 := by subst hW6; go_grown
          clear hW6
          obtain ⟨qa, qb, qc, qg, qd, qe, qf, qh, qz⟩ := cells4 b6 pz pa pb pc pg pd pe pf ph
          clear pa pb pc pg pd pe pf ph pz ra rb rc rd re rf rz
          have b6' := b4'.trans (b6.mono (by omega))
          have cs := rpsane_any ⟨a, nu⟩ W6
          rw [hP] at cs
          refine cs.mono ?_
          rintro e w7 ⟨rfl, hw7⟩
          have z7 := hw7.size
          have b7 := b6'.trans (hw7.mono (by omega))
          obtain ⟨pa, pb, pc, pg, pd, pe, pf, ph, pz⟩ := cells4 hw7 qz qa qb qc qg qd qe qf qh
          clear qa qb qc qg qd qe qf qh qz cs hP
          go_wp2
          refine bodyPost_ret (v := .tuple #[.agg #[.int .u64 0, .int .u64 0, .bool false, .int .i64 0], .int .i64 1]) (by simp [*, results, Tryd.results8, go_sem] <;> rfl) rfl ⟨by rw [HR.out]; rfl, ?_⟩
          go_grown

end Go.Proofs.YtfebhfghjdedhaaDoor

namespace Go.Proofs.YtfebhfghjdedhaaDoor
open Go.RowKit
set_option maxRecDepth 100000

/-- The first k groups, written, with colons between. -/
def hxJ (us : List Nat) (k : Nat) : List UInt8 := Lib.join ((us.take k).map hexL) [58]
theorem hxJ_len (us : List Nat) (k : Nat) (hk : k ≤ 100) : (hxJ us k).length ≤ 500 := by
  unfold hxJ
  have h := join_le 4 ((us.take k).map hexL) 58 (fun x hx => by
    obtain ⟨u, _, rfl⟩ := List.mem_map.1 hx
    exact hexL_le u)
  have : ((us.take k).map hexL).length ≤ 100 := by simp; omega
  omega
theorem hxJ_one (us : List Nat) (u : Nat) (h : us[0]? = some u) : hxJ us 1 = hexL u := by
  unfold hxJ
  rw [List.take_add_one, h, List.take_zero]
  exact Lib.join_one _ _
theorem hxJ_more (us : List Nat) (k u : Nat) (h0 : 0 < k) (h : us[k]? = some u) : hxJ us (k + 1) = hxJ us k ++ [58] ++ hexL u := by
  unfold hxJ
  have hlt := (List.getElem?_eq_some_iff.1 h).1
  rw [List.take_add_one, h, List.map_append]
  refine join_snoc 58 (hexL u) _ ?_
  intro e
  have h2 : ((us.take k).map hexL).length = 0 := by rw [e]; rfl
  rw [List.length_map, List.length_take] at h2
  omega

set_option maxHeartbeats 2000000 in
theorem hexes_any (A : Option Addr) (c : Nat) (us : List Nat) (hn : us.length ≤ 100) (hu : ∀ u ∈ us, u < 65536) (w : World) (he : Env w) (hA : us = [] ∨ ∃ g o, A = some ⟨g, o, none⟩ ∧ g < w.heap.size ∧ ∀ (j u : Nat), us[j]? = some u → w.cell? ⟨g, o + j, none⟩ = some (.int .i64 (u : Int))) :
    Calls Tryd.prog 31 #[.slice A us.length c] w fun e w' => e = .returned (.string ⟨(Lib.join (us.map hexL) [58]).toArray⟩) ∧ Below w.heap.size w w' := by
  have HA := Lib.hid hA
  have HU := Lib.hid hu
  clear hA hu
  go_enter Tryd.func31, Tryd.ntmps31
  go_wp2_with fail
  go_loopw [3, 4] (fun v i wr => ∃ (k : Nat) (J : List UInt8), J = hxJ us k ∧ v = .string ⟨J.toArray⟩ ∧ i = .int .i64 (k : Int) ∧ k ≤ us.length ∧ Below w.heap.size w wr) (fun _ i _ => us.length - (intOf i).toNat)
  case atStart => exact ⟨0, [], rfl, rfl, rfl, Nat.zero_le _, Below.refl _ _⟩
  case round =>
    obtain ⟨k, J, hJ, rfl, rfl, hk, hB⟩ := hrel
    have hbase := hB.size
    by_cases hlt : k < us.length
    · have hlt' : (k : Int) < (us.length : Int) := by omega
      obtain ⟨x, hx⟩ : ∃ x, us[k]? = some x := ⟨_, List.getElem?_eq_getElem hlt⟩
      have hx2 : x < 65536 := HU.out x (List.mem_of_getElem? hx)
      obtain ⟨g, o, rfl, hg, hcell⟩ : ∃ g o, A = some ⟨g, o, none⟩ ∧ g < w.heap.size ∧ ∀ (j u : Nat), us[j]? = some u → w.cell? ⟨g, o + j, none⟩ = some (.int .i64 (u : Int)) := by
        rcases HA.out with h | h
        · rw [h] at hlt; simp at hlt
        · exact h
      have hck := (hB.cell (p := ⟨g, o + k, none⟩) hg).trans (hcell k x hx)
      have cf := formatInt_16 x hx2 wr (he.go hB)
      have hl1 : J.length ≤ 500 := by rw [hJ]; exact hxJ_len us k (by omega)
      have hl2 := hexL_le x
      clear hcell
      by_cases hk0 : 0 < k
      · have hk0' : 0 < (k : Int) := by omega
        have hJ2 := Lib.hid (show J ++ [58] ++ hexL x = hxJ us (k + 1) by rw [hxJ_more us k x hk0 hx, hJ])
        clear hJ hx
        generalize hexL x = X at *
        have s1 : ((⟨J.toArray⟩ : ByteArray).size + (⟨#[58]⟩ : ByteArray).size) ≤ 9223372036854775807 := by simp [ByteArray.size]; omega
        have s2 : ((⟨J.toArray⟩ ++ ⟨#[58]⟩ : ByteArray).size + (⟨X.toArray⟩ : ByteArray).size) ≤ 9223372036854775807 := by simp [ByteArray.size]; omega
        go_wp2_with (go_at_call 55; refine cf.mono ?_; rintro e w2 ⟨rfl, hw2⟩)
        refine ⟨⟨k + 1, J ++ [58] ++ X, hJ2.out, by first | rfl | simp, by go_num, by omega, hB.trans (hw2.mono hbase)⟩, by simp [intOf]; omega⟩
      · obtain rfl : k = 0 := by omega
        rw [Nat.add_zero] at hck
        have hk0' : ¬ 0 < ((0 : Nat) : Int) := by omega
        obtain rfl : J = [] := hJ
        have hJ2 := Lib.hid (show hexL x = hxJ us 1 by rw [hxJ_one us x hx])
        clear hx
        generalize hexL x = X at *
        have s2 : ((⟨#[]⟩ : ByteArray).size + (⟨X.toArray⟩ : ByteArray).size) ≤ 9223372036854775807 := by simp [ByteArray.size]; omega
        go_wp2_with (go_at_call 55; refine cf.mono ?_; rintro e w2 ⟨rfl, hw2⟩)
        refine ⟨⟨1, X, hJ2.out, by first | rfl | simp, by go_num, by omega, hB.trans (hw2.mono hbase)⟩, by simp [intOf]; omega⟩
    · have hlt' : ¬ (k : Int) < (us.length : Int) := by omega
      obtain rfl : k = us.length := by omega
      have HJ := Lib.hid (show J = Lib.join (us.map hexL) [58] by rw [hJ]; unfold hxJ; rw [List.take_length])
      clear hJ
      go_wp2
      go_ret
      exact ⟨by rw [HJ.out]; rfl, hB⟩

end Go.Proofs.YtfebhfghjdedhaaDoor

namespace Go.Proofs.YtfebhfghjdedhaaDoor
open Go.RowKit

/-- An address' groups. -/
def grps (a : Ad) : List Nat := (List.range 8).map fun j => (byteAt a (2 * j) * 256 + byteAt a (2 * j + 1)).toNat
theorem grps_len (a : Ad) : (grps a).length = 8 := by simp [grps]
theorem grps_hex (a : Ad) : grpTs (byteAt a) 8 = (grps a).map hexL := by
  unfold grpTs grps
  rw [List.map_map]
  rfl
theorem grps_lt (a : Ad) : ∀ u ∈ grps a, u < 65536 := by
  intro u hu
  unfold grps at hu
  obtain ⟨j, _, rfl⟩ := List.mem_map.1 hu
  have h1 := byteAt_bd a (2 * j)
  have h2 := byteAt_bd a (2 * j + 1)
  omega
theorem flatG_grps (a : Ad) : flatG (grps a) = (List.range 16).map (byteAt a) := by
  have e : ∀ j, ((((byteAt a (2 * j) * 256 + byteAt a (2 * j + 1)).toNat : Nat) : Int) / 256 = byteAt a (2 * j)) ∧ ((((byteAt a (2 * j) * 256 + byteAt a (2 * j + 1)).toNat : Nat) : Int) % 256 = byteAt a (2 * j + 1)) := fun j => by
    have h1 := byteAt_bd a (2 * j)
    have h2 := byteAt_bd a (2 * j + 1)
    omega
  unfold flatG grps
  simp only [List.range_succ, List.range_zero, List.nil_append, List.map_cons, List.map_nil, List.cons_append, List.flatMap_cons, List.flatMap_nil, (e _).1, (e _).2, List.append_nil]
theorem at0_range (f : Nat → Int) (n j : Nat) (h : j < n) : at0 ((List.range n).map f) j = f j := by
  unfold at0
  rw [List.getD_eq_getElem?_getD, List.getElem?_map, List.getElem?_range h]
  rfl
theorem fHi_congr (f g : Nat → Int) : ∀ n, (∀ j, j < n → f j = g j) → fHi f n = fHi g n
  | 0, _ => rfl
  | n + 1, h => by
    unfold fHi
    rw [fHi_congr f g n (fun j hj => h j (by omega)), h n (by omega)]
theorem fLo_congr (f g : Nat → Int) : ∀ n, (∀ j, j < n → f j = g j) → fLo f n = fLo g n
  | 0, _ => rfl
  | n + 1, h => by
    unfold fLo
    rw [fLo_congr f g n (fun j hj => h j (by omega)), h n (by omega)]
theorem fromv_congr (f g : Nat → Int) (v : Bool) (h : ∀ j, j < nb v → f j = g j) : fromv f v = fromv g v := by
  unfold fromv
  rw [fHi_congr f g _ (fun j hj => h j (by unfold nb; exact hj)), fLo_congr f g _ (fun j hj => h j (by unfold nb; exact hj))]
theorem join_mem (c : UInt8) : ∀ (xs : List (List UInt8)) (b : UInt8), b ∈ Lib.join xs [c] → b = c ∨ ∃ x ∈ xs, b ∈ x
  | [], b, h => by cases h
  | [x], b, h => by rw [Lib.join_one] at h; exact .inr ⟨x, by simp, h⟩
  | x :: y :: r, b, h => by
    rw [join_cons2] at h
    rcases List.mem_append.1 h with h | h
    · exact .inr ⟨x, by simp, h⟩
    · rcases List.mem_cons.1 h with h | h
      · exact .inl h
      · rcases join_mem c (y :: r) b h with h | ⟨z, hz, h⟩
        · exact .inl h
        · exact .inr ⟨z, by simp at hz ⊢; exact .inr hz, h⟩
/-- What stands in a written address. -/
def Okc (b : UInt8) : Prop := (48 ≤ b.toNat ∧ b.toNat ≤ 57) ∨ (97 ≤ b.toNat ∧ b.toNat ≤ 102)
theorem gap_mem (us : List Nat) (b : UInt8) (h : b ∈ gapL (us.map hexL)) : b = 58 ∨ Okc b := by
  have hj : ∀ vs : List Nat, b ∈ Lib.join (vs.map hexL) [58] → b = 58 ∨ Okc b := fun vs h => by
    rcases join_mem 58 _ b h with h | ⟨x, hx, h⟩
    · exact .inl h
    · obtain ⟨u, _, rfl⟩ := List.mem_map.1 hx
      exact .inr (hexL_mem u b h)
  unfold gapL at h
  split at h
  · exact hj us h
  · rw [← List.map_take, ← List.map_drop] at h
    rcases List.mem_append.1 h with h | h
    · rcases List.mem_append.1 h with h | h
      · exact hj _ h
      · simp at h
        exact .inl h
    · exact hj _ h
theorem num_mem (bs : Nat → Int) (hb : ∀ j, 0 ≤ bs j) (k : Nat) : ∀ x ∈ numTs bs k, ∀ b ∈ x, 48 ≤ b.toNat ∧ b.toNat ≤ 57 := by
  intro x hx b hbx
  unfold numTs at hx
  obtain ⟨j, _, rfl⟩ := List.mem_map.1 hx
  unfold Lib.itoa at hbx
  rw [if_neg (by have := hb j; omega)] at hbx
  exact dec_mem _ b hbx
theorem printA_mem (a : Ad) (b : UInt8) (h : b ∈ printA a) : (if a.v6 then b = 58 else b = 46) ∨ Okc b := by
  unfold printA at h
  cases hv : a.v6 with
  | true =>
    rw [if_pos hv, grps_hex] at h
    rcases gap_mem _ b h with h | h
    · exact .inl h
    · exact .inr h
  | false =>
    rw [if_neg (by rw [hv]; simp)] at h
    rcases join_mem 46 _ b h with h | ⟨x, hx, h⟩
    · exact .inl h
    · exact .inr (.inl (num_mem (byteAt a) (fun j => (byteAt_bd a j).1) 4 x hx b h))
theorem shortL_free (l : List UInt8) (h : (46 : UInt8) ∉ l) : shortL l = none := by
  unfold shortL partsL
  rw [splitK_none 46 l h]
  rfl
theorem one_num (bs : Nat → Int) (hb : ∀ j, 0 ≤ bs j ∧ bs j < 256) (js : List Nat) : ∀ acc, bytesGo one (js.map fun j => Lib.itoa (bs j)) acc = some (acc ++ js.map bs) := by
  induction js with
  | nil => intro acc; simp [bytesGo]
  | cons j js ih =>
    intro acc
    have h := hb j
    have h1 : one (Lib.itoa (bs j)) = some [bs j] := by
      unfold one
      rw [numL_itoa 255 _ (by omega), if_pos (by omega)]
      rfl
    rw [List.map_cons, bytesGo_some h1, ih, List.append_assoc]
    rfl
theorem shortL_num (bs : Nat → Int) (hb : ∀ j, 0 ≤ bs j ∧ bs j < 256) : shortL (Lib.join (numTs bs 4) [46]) = some ((List.range 4).map bs) := by
  have hp : partsL 46 4 (Lib.join (numTs bs 4) [46]) = numTs bs 4 := partsL_join 46 _ 4 (by simp [numTs, List.range_succ]) (by rw [numTs_len]; omega) (fun x hx h => by
    have := num_mem bs (fun j => (hb j).1) 4 x hx 46 h
    simp at this)
  unfold shortL
  rw [hp, numTs_len, if_pos rfl]
  unfold numTs
  rw [one_num bs hb]
  simp
/-- WHAT IS PRINTED IS PARSED: an address. -/
theorem parse_print (a : Ad) : parseA (printA a) = some (norm a) := by
  cases hv : a.v6 with
  | true =>
    have h46 : (46 : UInt8) ∉ printA a := fun h => by
      rcases printA_mem a 46 h with h | h
      · rw [hv] at h; simp at h
      · unfold Okc at h; simp at h
    have hl : longL (printA a) = some ((List.range 16).map (byteAt a)) := by
      unfold printA
      rw [if_pos hv, grps_hex, longL_gap _ (grps_len a) (grps_lt a), flatG_grps]
    rw [parseA_long (shortL_free _ h46) hl, ← from_bytes a, hv]
    exact congrArg some (fromv_congr _ _ true (fun j hj => at0_range _ 16 j hj))
  | false =>
    have hs : shortL (printA a) = some ((List.range 4).map (byteAt a)) := by
      unfold printA
      rw [if_neg (by rw [hv]; simp), shortL_num _ (byteAt_bd a)]
    rw [parseA_short hs, ← from_bytes a, hv]
    exact congrArg some (fromv_congr _ _ false (fun j hj => at0_range _ 4 j hj))
theorem norm_parse {l : List UInt8} {a : Ad} (h : parseA l = some a) : norm a = a := by
  unfold parseA at h
  cases hs : shortL l with
  | some bs =>
    rw [hs] at h
    simp only [Option.some.injEq] at h
    rw [← h]
    unfold fromv
    exact norm_norm _
  | none =>
    rw [hs] at h
    cases hl : longL l with
    | none => rw [hl] at h; cases h
    | some bs =>
      rw [hl] at h
      simp only [Option.map_some, Option.some.injEq] at h
      rw [← h]
      unfold fromv
      exact norm_norm _
theorem byteAt_norm (a : Ad) (k : Nat) : byteAt (norm a) k = byteAt a k := by
  unfold byteAt
  rw [norm_norm]
theorem printA_norm (a : Ad) : printA (norm a) = printA a := by
  have e : byteAt (norm a) = byteAt a := funext (byteAt_norm a)
  have ev : (norm a).v6 = a.v6 := by unfold norm; cases a.v6 <;> rfl
  unfold printA
  rw [e, ev]
theorem cut1_at (c : UInt8) (x t : List UInt8) (h : c ∉ x) : Lib.cut (x ++ [c] ++ t) [c] = (x, t, true) := by
  unfold Lib.cut
  rw [show x ++ [c] ++ t = x ++ c :: t by simp, index_one_at c t x h, if_pos (by omega)]
  simp
theorem cut1_none (c : UInt8) (x : List UInt8) (h : c ∉ x) : Lib.cut x [c] = (x, [], false) := by
  unfold Lib.cut
  rw [index_one_none c x h]
  rfl
theorem slash_free (a : Ad) : (47 : UInt8) ∉ printA a := fun h => by
  rcases printA_mem a 47 h with h | h
  · cases hv : a.v6 <;> rw [hv] at h <;> simp at h
  · unfold Okc at h; simp at h
/-- A prefix, printed and parsed. -/
theorem parse_printP (p : Pf) : parseP (printP p) = if 0 ≤ p.n ∧ p.n ≤ 999 then (if psane ⟨norm p.a, p.n⟩ = true then (⟨norm p.a, p.n⟩, 0) else (pf0, 1)) else (pf0, 5) := by
  have hc : Lib.cut (printP p) [47] = (printA p.a, Lib.itoa p.n, true) := cut1_at 47 _ _ (slash_free p.a)
  have hA : parseA (Lib.cut (printP p) [47]).1 = some (norm p.a) := by rw [hc]; exact parse_print p.a
  have hG : (Lib.cut (printP p) [47]).2.2 = true := by rw [hc]
  by_cases h : 0 ≤ p.n ∧ p.n ≤ 999
  · rw [if_pos h]
    exact parseP_some hG hA (by rw [hc]; show numL 999 (Lib.itoa p.n) = _; rw [numL_itoa 999 _ (by omega), if_pos h])
  · rw [if_neg h]
    exact parseP_none3 hG hA (by rw [hc]; show numL 999 (Lib.itoa p.n) = _; rw [numL_itoa 999 _ (by omega), if_neg h])

end Go.Proofs.YtfebhfghjdedhaaDoor

namespace Go.Proofs.YtfebhfghjdedhaaDoor
open Go.RowKit
set_option maxRecDepth 100000

def natv (us : List Nat) : List Value := us.map fun u : Nat => Value.int .i64 (u : Int)
theorem natv_append (a b : List Nat) : natv (a ++ b) = natv a ++ natv b := List.map_append
def grpN (a : Ad) (k : Nat) : List Nat := (List.range k).map fun j => (byteAt a (2 * j) * 256 + byteAt a (2 * j + 1)).toNat
theorem grpN_succ (a : Ad) (k : Nat) : grpN a (k + 1) = grpN a k ++ [(byteAt a (2 * k) * 256 + byteAt a (2 * k + 1)).toNat] := by
  unfold grpN
  rw [List.range_succ, List.map_append]
  rfl
theorem grpN_eight (a : Ad) : grpN a 8 = grps a := rfl

set_option maxHeartbeats 2000000 in
theorem groups_any (a : Ad) (hv : a.v6 = true) (w : World) :
    Calls Tryd.prog 29 #[.agg #[.int .u64 (u a.hi), .int .u64 (u a.lo), .bool a.v6]] w fun e w' => ∃ v B, e = .returned v ∧ w.heap.size ≤ B ∧ w'.ownsRow B 3 1 v 8 (natv (grps a)) ∧ Below w.heap.size w w' := by
  obtain ⟨i0, hi0, hz0, hz1, hz2⟩ := info_parts info_int
  go_enter Tryd.func29, Tryd.ntmps29
  go_wp2_with fail
  generalize hW1 : World.alloc _ _ = W1
  have z1 : w.heap.size < W1.heap.size := by subst hW1; go_size
  have b1 : Below w.heap.size w W1 := by subst hW1; go_grown
  obtain ⟨pa, pb, pc, pd, pe, pf, pz⟩ : Box W1 w.heap.size a := by
    subst hW1
    refine ⟨?_, ?_, ?_, ?_, ?_, ?_, ?_⟩ <;> first | (go_simp; done) | (go_simp <;> rfl) | go_size
  clear hW1
  have cb := refBytes_any a W1
  rw [hv, show nb true = 16 from rfl] at cb
  refine cb.mono ?_
  rintro e w2 ⟨v2, rfl, ⟨g, c, rfl, hgl, hcl⟩, hw2⟩
  have z2 := hw2.size
  have b2 := b1.trans (hw2.mono (Nat.le_of_lt z1))
  have Hcell := Lib.hid hcl
  clear hcl cb pa pb pc pd pe pf pz
  go_wp2_with fail
  go_loopw [4, 5] (fun l i wr => ∃ k : Nat, k ≤ 8 ∧ i = .int .i64 (2 * (k : Int)) ∧ wr.ownsRow w2.heap.size 3 1 l k (natv (grpN a k)) ∧ Below w2.heap.size w2 wr) (fun _ i _ => 16 - (intOf i).toNat)
  case atStart => exact ⟨0, by omega, rfl, World.ownsRow_nil _ _ _ _, Below.refl _ _⟩
  case round =>
    obtain ⟨k, hk, rfl, hown, hB⟩ := hrel
    have Hown := Lib.hid hown
    have Hge := Lib.hid (own_ge hown)
    have hz := hB.size
    clear hown
    obtain ⟨W, rfl⟩ : ∃ W, W = wr := ⟨_, rfl⟩
    by_cases hlt : k < 8
    · have hlt' : 2 * (k : Int) + 1 < 16 := by omega
      obtain ⟨a0, a1⟩ := byteAt_bd a (2 * k)
      obtain ⟨b0, b1'⟩ := byteAt_bd a (2 * k + 1)
      have hca := (hB.cell (p := ⟨g, 0 + 2 * k, none⟩) hgl).trans (Hcell.out (2 * k) (by omega))
      have hcb := (hB.cell (p := ⟨g, 0 + (2 * k + 1), none⟩) hgl).trans (Hcell.out (2 * k + 1) (by omega))
      rw [Nat.zero_add] at hca hcb
      have hgW : g < W.heap.size := by omega
      have La := fun x : Later W.heap.size W => (x.cell (p := ⟨g, 2 * k, none⟩) hgW).trans hca
      have Lb := fun x : Later W.heap.size W => (x.cell (p := ⟨g, 2 * k + 1, none⟩) hgW).trans hcb
      have hN := Lib.hid (show byteAt a (2 * k) * 256 + byteAt a (2 * k + 1) = (((byteAt a (2 * k) * 256 + byteAt a (2 * k + 1)).toNat : Nat) : Int) by omega)
      go_wp2_with fail
      refine region_tail1 14 W.heap.size u4 (by kernel_rfl) (by kernel_rfl) (.inl ⟨rfl, fun _ => by simp [go_sem]⟩) (fun _ _ _ h => h) ?_
      simp only [Nat.reduceSub, List.take_succ_cons, List.take_zero, List.drop_succ_cons, List.drop_zero, Act.put, List.setIfInBounds_toArray, List.set_cons_succ, List.set_cons_zero]
      repeat (go_big_quiet_step (fail))
      refine wpQuiet_nil ?_
      intro x
      have hx : Below w2.heap.size w2 x.at := hB.trans (x.below.mono hz)
      have Hown2 := Lib.hid (own_keep Hown.out x.below)
      have hzx := x.below.size
      clear La Lb hca hcb Hown hgW
      generalize x.at = w4 at *
      clear x
      go_wp2_with (
        at_builtin
        refine wpList_append_own _ rfl (.tmp 15) (.tmp 29) _ rfl w2.heap.size 3 i0 _ 1 8 Tryd.underlying52 hi0 hz0 hz1 hz2 rfl (by omega) _ _ _ rfl (Hown2.out.alloc _) ⟨w4.heap.size, 0, none⟩ 1 1 [.int .i64 (byteAt a (2 * k) * 256 + byteAt a (2 * k + 1))] rfl rfl (World.news_of_block (cs := #[.int .i64 (byteAt a (2 * k) * 256 + byteAt a (2 * k + 1))]) (t := 3) (fr := (0, 0)) (heap_alloc_new w4 _)) (by simp [Value.oneCell']) (by simp only [maxLen]; omega) (by omega) (by simp; omega) ?_
        intro v1 w3 hown1 hg1 hat1
        have H1 := Lib.hid hown1
        have G1 := Lib.hid hg1
        clear hown1 hg1 hat1
        )
      have bX : Below w2.heap.size w2 w3 := (hx.alloc (by omega) _).grown G1.out (by simp; omega) Hge.out
      refine ⟨⟨k + 1, by omega, by go_num, ?_, bX⟩, by simp [intOf]; omega⟩
      rw [grpN_succ, natv_append]
      have h := H1.out
      rw [hN.out] at h
      exact h
    · obtain rfl : k = 8 := by omega
      have hlt' : ¬ 2 * ((8 : Nat) : Int) + 1 < 16 := by omega
      go_wp2
      go_ret
      exact ⟨u4, rfl, w2.heap.size, by omega, Hown.out, b2.trans (hB.mono (by omega))⟩

end Go.Proofs.YtfebhfghjdedhaaDoor

namespace Go.Proofs.YtfebhfghjdedhaaDoor
open Go.RowKit

theorem zl_hex (us : List Nat) (hu : ∀ u ∈ us, u < 65536) : zl (us.map hexL) = zg us := by
  unfold zl zg
  rw [List.map_map]
  refine List.map_congr_left fun u hm => ?_
  by_cases h : u = 0
  · subst h
    decide
  · cases hz : isZ (hexL u) with
    | true => exact absurd (isZ_hex u (hu u hm) hz) h
    | false =>
      show isZ (hexL u) = (u == 0)
      rw [hz, Eq.comm, beq_eq_false_iff_ne]
      exact h
theorem gapL_lng (us : List Nat) (hu : ∀ u ∈ us, u < 65536) (h0 : 0 < us.length) :
    gapL (us.map hexL) = if runL ((zg us).drop (lngAt us)) < 2 then Lib.join (us.map hexL) [58] else Lib.join ((us.take (lngAt us)).map hexL) [58] ++ [58, 58] ++ Lib.join ((us.drop (lngAt us + runL ((zg us).drop (lngAt us)))).map hexL) [58] := by
  have hl : (zg us).length = us.length := by simp [zg]
  have hb := lng_best0 (zg us) (by omega)
  rw [hl] at hb
  unfold gapL
  rw [zl_hex us hu, hb]
  show (if (lngAt us + runL ((zg us).drop (lngAt us))) - lngAt us < 2 then _ else _) = _
  rw [Nat.add_sub_cancel_left, List.map_take, List.map_drop]
  rfl

end Go.Proofs.YtfebhfghjdedhaaDoor

namespace Go.Proofs.YtfebhfghjdedhaaDoor
open Go.RowKit
set_option maxRecDepth 100000

set_option maxHeartbeats 2000000 in
theorem refPrintAddr_six (a : Ad) (hv : a.v6 = true) (w : World) (he : Env w) :
    Calls Tryd.prog 10 #[.agg #[.int .u64 (u a.hi), .int .u64 (u a.lo), .bool a.v6]] w fun e w' => e = .returned (.string ⟨(printA a).toArray⟩) ∧ Below w.heap.size w w' := by
  have n8 : (grps a).length = 8 := grps_len a
  have HU := Lib.hid (grps_lt a)
  have HP := Lib.hid (show printA a = gapL ((grps a).map hexL) by unfold printA; rw [if_pos hv, grps_hex])
  have HL := Lib.hid (gapL_lng (grps a) HU.out (by omega))
  have tb := lngGo_le (zg (grps a)) (grps a).length 0 0 (by simp [zg]) (by simp [zg]; omega)
  have rb := runL_le ((zg (grps a)).drop (lngAt (grps a)))
  have zl8 : (zg (grps a)).length = 8 := by simp [zg, n8]
  rw [List.length_drop, zl8] at rb
  rw [zl8] at tb
  have tb2 : lngAt (grps a) < 8 := tb
  clear tb zl8
  have cb0 := fun w => groups_any a hv w
  have cl0 := fun (g c : Nat) (w : World) hcell => longest_any g c (grps a) (by omega) (by omega) w hcell
  rw [n8] at cl0
  have ch0 := fun (A : Option Addr) (c : Nat) (w : World) he hA => hexes_any A c (grps a) (by omega) HU.out w he hA
  rw [n8] at ch0
  go_enter Tryd.func10, Tryd.ntmps10
  go_wp2_with fail
  generalize hW1 : World.alloc _ _ = W1
  have z1 : w.heap.size < W1.heap.size := by subst hW1; go_size
  have b1 : Below w.heap.size w W1 := by subst hW1; go_grown
  have e1 := he.go b1
  clear hW1
  have cb := cb0 W1
  rw [hv] at cb
  clear cb0 hv
  refine cb.mono ?_
  rintro e w2 ⟨v2, B, rfl, hBz, hown2, hw2⟩
  have z2 := hw2.size
  have b2 := b1.trans (hw2.mono (Nat.le_of_lt z1))
  have e2 := e1.go hw2
  obtain ⟨g, cap, hv2, hgb, hgl⟩ := hown2.form (by omega)
  have hcl := hown2.cells (g := g) (by rw [hv2]; rfl)
  have hcap : 8 ≤ cap := by
    rcases hown2.2 with ⟨h, _⟩ | ⟨g', cap', cur', h, _, _, h4, _⟩
    · rw [hv2] at h; cases h
    · rw [hv2] at h
      injection h with h1 h2 h3
      omega
  have Hcell := Lib.hid (fun (j u : Nat) (hx : (grps a)[j]? = some u) => (by
    have e := hcl j (.int .i64 (u : Int)) (by unfold natv; rw [List.getElem?_map, hx]; rfl)
    rw [addr_add, Nat.zero_add] at e
    exact e : w2.cell? ⟨g, j, none⟩ = some (.int .i64 (u : Int))))
  subst hv2
  clear hcl hown2 cb
  have cl := cl0 g cap w2 Hcell.out
  clear cl0
  have c8 := ch0 (some ⟨g, 0, none⟩) cap w2 e2 (.inr ⟨g, 0, rfl, hgl, fun j u hx => by rw [Nat.zero_add]; exact Hcell.out j u hx⟩)
  clear ch0
  generalize grps a = us at *
  generalize lngAt us = t at *
  generalize runL ((zg us).drop t) = R at *
  go_wp2_with fail
  refine cl.mono ?_
  rintro e w3 ⟨rfl, hw3⟩
  rw [hw3]
  clear hw3 w3 cl
  by_cases h2 : R < 2
  · have h2' : (R : Int) < 2 := by omega
    have HL2 := Lib.hid HL.out
    rw [if_pos h2] at HL2
    clear HL
    go_wp2_with fail
    refine c8.mono ?_
    rintro e w4 ⟨rfl, hw4⟩
    go_wp2
    go_ret
    exact ⟨by rw [HP.out, HL2.out]; rfl, b2.trans (hw4.mono (by omega))⟩
  · have h2' : ¬ (R : Int) < 2 := by omega
    have HL2 := Lib.hid HL.out
    rw [if_neg h2] at HL2
    clear HL c8
    obtain ⟨q, hq⟩ : ∃ q, q = t + R := ⟨_, rfl⟩
    rw [← hq] at HL2
    have hq2 : (t : Int) + (R : Int) = (q : Int) := by omega
    have hq8 : q ≤ 8 := by omega
    have lf : (us.take t).length = t := by simp; omega
    have lt : (us.drop q).length = 8 - q := by simp; omega
    have c1 : ∀ x : Later w2.heap.size w2, Calls Tryd.prog 31 #[.slice (some ⟨g, 0, none⟩) t cap] x.at fun e w' => e = .returned (.string ⟨(Lib.join ((us.take t).map hexL) [58]).toArray⟩) ∧ Below x.at.heap.size x.at w' := fun x => by
      have h := hexes_any (some ⟨g, 0, none⟩) cap (us.take t) (by omega) (fun u hm => HU.out u (List.mem_of_mem_take hm)) x.at (e2.go x.below) (.inr ⟨g, 0, rfl, Nat.lt_of_lt_of_le hgl x.below.size, fun j y hy => by
        rw [Nat.zero_add]
        have hy2 : us[j]? = some y := by
          rw [List.getElem?_take] at hy
          split at hy
          · exact hy
          · cases hy
        exact (x.cell (p := ⟨g, j, none⟩) hgl).trans (Hcell.out j y hy2)⟩)
      rw [lf] at h
      exact h
    have c2 : ∀ (A : Option Addr) (cc : Nat), (q = 8 ∨ A = some ⟨g, q, none⟩) → ∀ x : Later w2.heap.size w2, Calls Tryd.prog 31 #[.slice A (8 - q) cc] x.at fun e w' => e = .returned (.string ⟨(Lib.join ((us.drop q).map hexL) [58]).toArray⟩) ∧ Below x.at.heap.size x.at w' := fun A cc hA x => by
      have h := hexes_any A cc (us.drop q) (by omega) (fun u hm => HU.out u (List.mem_of_mem_drop hm)) x.at (e2.go x.below) (by
        rcases hA with h8 | hA
        · exact .inl (List.drop_eq_nil_of_le (by omega))
        · refine .inr ⟨g, q, hA, Nat.lt_of_lt_of_le hgl x.below.size, fun j y hy => ?_⟩
          rw [List.getElem?_drop] at hy
          exact (x.cell (p := ⟨g, q + j, none⟩) hgl).trans (Hcell.out (q + j) y hy))
      rw [lt] at h
      exact h
    have l1 := join_le 4 ((us.take t).map hexL) 58 (fun x hx => by obtain ⟨u, _, rfl⟩ := List.mem_map.1 hx; exact hexL_le u)
    have l2 := join_le 4 ((us.drop q).map hexL) 58 (fun x hx => by obtain ⟨u, _, rfl⟩ := List.mem_map.1 hx; exact hexL_le u)
    rw [List.length_map, lf] at l1
    rw [List.length_map, lt] at l2
    generalize Lib.join ((us.take t).map hexL) [58] = J1 at c1 HL2 l1
    generalize Lib.join ((us.drop q).map hexL) [58] = J2 at c2 HL2 l2
    have l1' : J1.length ≤ 40 := by omega
    have l2' : J2.length ≤ 40 := by omega
    have s1 : ((⟨J1.toArray⟩ : ByteArray).size + (⟨#[58, 58]⟩ : ByteArray).size) ≤ 9223372036854775807 := by simp [ByteArray.size]; omega
    have s2 : ((⟨J1.toArray⟩ ++ ⟨#[58, 58]⟩ : ByteArray).size + (⟨J2.toArray⟩ : ByteArray).size) ≤ 9223372036854775807 := by
      have := ba_append J1 [58, 58]
      rw [show (⟨[58, 58].toArray⟩ : ByteArray) = ⟨#[58, 58]⟩ from rfl] at this
      rw [this, ba_size, ba_size, List.length_append]
      simp
      omega
    have HC1 := fun x => Lib.hid (c1 x)
    have HC2 := fun x => Lib.hid (c2 (if cap = q then some ⟨g, 0, none⟩ else some ⟨g, q, none⟩) (cap - q) (by
      by_cases h : cap = q
      · exact .inl (by omega)
      · exact .inr (if_neg h)) x)
    have ht8 : (t : Int) ≤ 8 := by omega
    have hq9 : (q : Int) ≤ 8 := by omega
    have hS : (⟨J1.toArray⟩ ++ ⟨#[58, 58]⟩ ++ ⟨J2.toArray⟩ : ByteArray) = ⟨(printA a).toArray⟩ := by
      rw [HP.out, HL2.out, show (⟨#[58, 58]⟩ : ByteArray) = ⟨[58, 58].toArray⟩ from rfl, ba_append, ba_append]
    have HS := Lib.hid hS
    clear c1 c2 l1 l2 hS hq n8 lf lt tb2 rb
    go_wp2_with fail
    refine region_later w2.heap.size (by kernel_rfl) (by kernel_rfl) ?_
    repeat (go_big_quiet_step (first
      | (go_at_call 31; with_reducible exact later_of (Nat.le_refl _) (HC1 _).out)
      | (go_at_call 31; with_reducible exact later_of (Nat.le_refl _) (HC2 _).out)))
    refine wpQuiet_nil ?_
    intro x
    have bx := x.below
    clear HC1 HC2
    generalize x.at = w4 at *
    clear x
    go_wp2
    all_goals go_ret
    all_goals exact ⟨congrArg (fun s => Ending.returned (Value.string s)) HS.out, b2.trans (bx.mono (by omega))⟩

end Go.Proofs.YtfebhfghjdedhaaDoor

namespace Go.Proofs.YtfebhfghjdedhaaDoor
open Go.RowKit
set_option maxRecDepth 100000

/-- The first k numbers, written, with points between. -/
def nmJ (bs : Nat → Int) (k : Nat) : List UInt8 := Lib.join (numTs bs k) [46]
theorem nmJ_len (bs : Nat → Int) (hb : ∀ j, 0 ≤ bs j ∧ bs j < 256) (k : Nat) (hk : k ≤ 4) : (nmJ bs k).length ≤ 50 := by
  unfold nmJ
  have h := join_le 3 (numTs bs k) 46 (numTs_le bs hb k)
  rw [numTs_len] at h
  omega
theorem nmJ_one (bs : Nat → Int) : nmJ bs 1 = Lib.itoa (bs 0) := Lib.join_one _ _
theorem nmJ_more (bs : Nat → Int) (k : Nat) (h0 : 0 < k) : nmJ bs (k + 1) = nmJ bs k ++ [46] ++ Lib.itoa (bs k) := by
  unfold nmJ
  rw [numTs_succ]
  refine join_snoc 46 _ _ ?_
  intro e
  have h2 := numTs_len bs k
  rw [e] at h2
  simp at h2
  omega

set_option maxHeartbeats 2000000 in
theorem refPrintAddr_four (a : Ad) (hv : a.v6 = false) (w : World) (he : Env w) :
    Calls Tryd.prog 10 #[.agg #[.int .u64 (u a.hi), .int .u64 (u a.lo), .bool a.v6]] w fun e w' => e = .returned (.string ⟨(printA a).toArray⟩) ∧ Below w.heap.size w w' := by
  have HP := Lib.hid (show printA a = nmJ (byteAt a) 4 from if_neg (by rw [hv]; simp))
  have cb0 := fun w => refBytes_any a w
  rw [hv, show nb false = 4 from rfl] at cb0
  go_enter Tryd.func10, Tryd.ntmps10
  go_wp2_with fail
  generalize hW1 : World.alloc _ _ = W1
  have z1 : w.heap.size < W1.heap.size := by subst hW1; go_size
  have b1 : Below w.heap.size w W1 := by subst hW1; go_grown
  have e1 := he.go b1
  clear hW1
  have cb := cb0 W1
  clear cb0 hv
  refine cb.mono ?_
  rintro e w2 ⟨v2, rfl, ⟨g, c, rfl, hgl, hcl⟩, hw2⟩
  have z2 := hw2.size
  have b2 := b1.trans (hw2.mono (Nat.le_of_lt z1))
  have e2 := e1.go hw2
  have Hcell := Lib.hid hcl
  clear hcl cb
  go_wp2_with fail
  go_loopw [7, 8] (fun v i wr => ∃ (k : Nat) (J : List UInt8), J = nmJ (byteAt a) k ∧ v = .string ⟨J.toArray⟩ ∧ i = .int .i64 (k : Int) ∧ k ≤ 4 ∧ Below w2.heap.size w2 wr) (fun _ i _ => 4 - (intOf i).toNat)
  case atStart => exact ⟨0, [], rfl, rfl, rfl, Nat.zero_le _, Below.refl _ _⟩
  case round =>
    obtain ⟨k, J, hJ, rfl, rfl, hk, hB⟩ := hrel
    have hbase := hB.size
    by_cases hlt : k < 4
    · have hlt' : (k : Int) < 4 := by omega
      have hck := (hB.cell (p := ⟨g, 0 + k, none⟩) hgl).trans (Hcell.out k hlt)
      rw [Nat.zero_add] at hck
      obtain ⟨y0, y1⟩ := byteAt_bd a k
      have cf := itoa_any (byteAt a k) (by omega) (by omega) wr (e2.go hB)
      have hl1 : J.length ≤ 50 := by rw [hJ]; exact nmJ_len _ (byteAt_bd a) k hk
      have hl2 := itoa_le (byteAt a k) (by omega) (by omega)
      by_cases hk0 : 0 < k
      · have hk0' : 0 < (k : Int) := by omega
        have hJ2 := Lib.hid (show J ++ [46] ++ Lib.itoa (byteAt a k) = nmJ (byteAt a) (k + 1) by rw [nmJ_more _ k hk0, hJ])
        clear hJ
        generalize Lib.itoa (byteAt a k) = X at *
        have s1 : ((⟨J.toArray⟩ : ByteArray).size + (⟨#[46]⟩ : ByteArray).size) ≤ 9223372036854775807 := by simp [ByteArray.size]; omega
        have s2 : ((⟨J.toArray⟩ ++ ⟨#[46]⟩ : ByteArray).size + (⟨X.toArray⟩ : ByteArray).size) ≤ 9223372036854775807 := by simp [ByteArray.size]; omega
        go_wp2_with (go_at_call 33; refine cf.mono ?_; rintro e w3 ⟨rfl, hw3⟩)
        refine ⟨⟨k + 1, J ++ [46] ++ X, hJ2.out, by first | rfl | simp, by go_num, by omega, hB.trans (hw3.mono hbase)⟩, by simp [intOf]; omega⟩
      · obtain rfl : k = 0 := by omega
        have hk0' : ¬ 0 < ((0 : Nat) : Int) := by omega
        obtain rfl : J = [] := hJ
        have hJ2 := Lib.hid (show Lib.itoa (byteAt a 0) = nmJ (byteAt a) 1 from (nmJ_one _).symm)
        generalize Lib.itoa (byteAt a 0) = X at *
        have s2 : ((⟨#[]⟩ : ByteArray).size + (⟨X.toArray⟩ : ByteArray).size) ≤ 9223372036854775807 := by simp [ByteArray.size]; omega
        go_wp2_with (go_at_call 33; refine cf.mono ?_; rintro e w3 ⟨rfl, hw3⟩)
        refine ⟨⟨1, X, hJ2.out, by first | rfl | simp, by go_num, by omega, hB.trans (hw3.mono hbase)⟩, by simp [intOf]⟩
    · have hlt' : ¬ (k : Int) < 4 := by omega
      obtain rfl : k = 4 := by omega
      have HJ := Lib.hid (show J = printA a by rw [hJ, HP.out])
      clear hJ
      go_wp2
      go_ret
      exact ⟨by rw [HJ.out]; rfl, b2.trans (hB.mono (by omega))⟩

theorem refPrintAddr_any (a : Ad) (w : World) (he : Env w) :
    Calls Tryd.prog 10 #[.agg #[.int .u64 (u a.hi), .int .u64 (u a.lo), .bool a.v6]] w fun e w' => e = .returned (.string ⟨(printA a).toArray⟩) ∧ Below w.heap.size w w' := by
  cases hv : a.v6 with
  | true =>
    have h := refPrintAddr_six a hv w he
    rw [hv] at h
    exact h
  | false =>
    have h := refPrintAddr_four a hv w he
    rw [hv] at h
    exact h

end Go.Proofs.YtfebhfghjdedhaaDoor

namespace Go.Proofs.YtfebhfghjdedhaaDoor
open Go.RowKit
set_option maxRecDepth 100000

set_option maxHeartbeats 2000000 in
theorem refPrint_any (p : Pf) (h0 : -9223372036854775808 ≤ p.n) (h1 : p.n ≤ 9223372036854775807) (w : World) (he : Env w) :
    Calls Tryd.prog 12 #[.agg #[.int .u64 (u p.a.hi), .int .u64 (u p.a.lo), .bool p.a.v6, .int .i64 p.n]] w fun e w' => e = .returned (.string ⟨(printP p).toArray⟩) ∧ Below w.heap.size w w' := by
  have la := printA_le p.a
  have ln := itoa_le p.n h0 h1
  have HP := Lib.hid (show printP p = printA p.a ++ [47] ++ Lib.itoa p.n from rfl)
  have hc1 : ∀ w, Env w → Calls Tryd.prog 10 #[.agg #[.int .u64 (u p.a.hi), .int .u64 (u p.a.lo), .bool p.a.v6]] w fun e w' => e = .returned (.string ⟨(printA p.a).toArray⟩) ∧ Below w.heap.size w w' := fun w he => refPrintAddr_any p.a w he
  have hc2 : ∀ w, Env w → Calls Tryd.prog 33 #[.int .i64 p.n] w fun e w' => e = .returned (.string ⟨(Lib.itoa p.n).toArray⟩) ∧ Below w.heap.size w w' := fun w he => itoa_any p.n h0 h1 w he
  generalize printA p.a = J1 at *
  generalize Lib.itoa p.n = J2 at *
  have s1 : ((⟨J1.toArray⟩ : ByteArray).size + (⟨#[47]⟩ : ByteArray).size) ≤ 9223372036854775807 := by simp [ByteArray.size]; omega
  have s2 : ((⟨J1.toArray⟩ ++ ⟨#[47]⟩ : ByteArray).size + (⟨J2.toArray⟩ : ByteArray).size) ≤ 9223372036854775807 := by
    have := ba_append J1 [47]
    rw [show (⟨[47].toArray⟩ : ByteArray) = ⟨#[47]⟩ from rfl] at this
    rw [this, ba_size, ba_size, List.length_append]
    simp
    omega
  have hS : (⟨J1.toArray⟩ ++ ⟨#[47]⟩ ++ ⟨J2.toArray⟩ : ByteArray) = ⟨(printP p).toArray⟩ := by
    rw [HP.out, show (⟨#[47]⟩ : ByteArray) = ⟨[47].toArray⟩ from rfl, ba_append, ba_append]
  have HS := Lib.hid hS
  clear hS HP
  go_enter Tryd.func12, Tryd.ntmps12
  go_wp2_with fail
  generalize hW1 : World.alloc _ _ = W1
  have z1 : w.heap.size < W1.heap.size := by subst hW1; go_size
  have b1 : Below w.heap.size w W1 := by subst hW1; go_grown
  obtain ⟨pa, pb, pc, pg, pd, pe, pf, ph, pz⟩ : PBox W1 w.heap.size p := by
    subst hW1
    refine ⟨?_, ?_, ?_, ?_, ?_, ?_, ?_, ?_, ?_⟩ <;> first | (go_simp; done) | (go_simp <;> rfl) | go_size
  clear hW1
  have La := fun x : Later W1.heap.size W1 => (x.cell (p := ⟨w.heap.size, 0, none⟩) pz).trans pa
  have Lb := fun x : Later W1.heap.size W1 => (x.cell (p := ⟨w.heap.size, 1, none⟩) pz).trans pb
  have Lc := fun x : Later W1.heap.size W1 => (x.cell (p := ⟨w.heap.size, 2, none⟩) pz).trans pc
  have Lg := fun x : Later W1.heap.size W1 => (x.cell (p := ⟨w.heap.size, 3, none⟩) pz).trans pg
  have HC1 := fun x : Later W1.heap.size W1 => Lib.hid (hc1 x.at ((he.go b1).go x.below))
  have HC2 := fun x : Later W1.heap.size W1 => Lib.hid (hc2 x.at ((he.go b1).go x.below))
  clear hc1 hc2
  refine region_later W1.heap.size (by kernel_rfl) (by kernel_rfl) ?_
  repeat (go_big_quiet_step (first
    | (go_at_call 10; exact later_of (Nat.le_refl _) (HC1 _).out)
    | (go_at_call 33; exact later_of (Nat.le_refl _) (HC2 _).out)))
  refine wpQuiet_nil ?_
  intro x
  have bx := b1.trans (x.below.mono (Nat.le_of_lt z1))
  clear HC1 HC2 La Lb Lc Lg
  generalize x.at = w2 at *
  clear x
  go_wp2
  go_ret
  exact ⟨congrArg (fun s => Ending.returned (Value.string s)) HS.out, bx⟩

end Go.Proofs.YtfebhfghjdedhaaDoor

namespace Go.Proofs.YtfebhfghjdedhaaDoor
open Go.RowKit
set_option maxRecDepth 100000

def exP3 : Pf := ⟨⟨2306139568115548160#64, 0#64, true⟩, 32⟩
def ex3A : List UInt8 := [50, 48, 48, 49, 58, 68, 66, 56, 58, 48, 58, 48, 58, 49, 58, 48, 58, 48, 58, 49, 47, 54, 52]
def ex3B : List UInt8 := [50, 48, 48, 49, 58, 100, 98, 56, 58, 58, 47, 51, 50]
theorem ex3_one : parseP ex3A = (pf0, 1) := by decide +kernel
theorem ex3_two : parseP ex3B = (exP3, 0) := by decide +kernel
theorem itoa32 : Lib.itoa 32 = [51, 50] := by
  unfold Lib.itoa
  rw [if_neg (by decide)]
  show Lib.decDigits 32 = _
  rw [Lib.decDigits, dif_neg (by decide), Lib.decDigits, dif_pos (by decide)]
  rfl
theorem ex3_print : printP exP3 = ex3B := by
  unfold printP
  rw [show exP3.n = 32 from rfl, itoa32]
  decide +kernel

set_option maxHeartbeats 2000000 in
theorem awake3_any (w : World) (he : Env w) :
    Calls Tryd.prog 4 #[] w fun e w' => e = .returned (.bool true) ∧ Below w.heap.size w w' := by
  have c1 : ∀ w, Env w → Calls Tryd.prog 7 #[.string ⟨#[50, 48, 48, 49, 58, 68, 66, 56, 58, 48, 58, 48, 58, 49, 58, 48, 58, 48, 58, 49, 47, 54, 52]⟩] w fun e w' => e = .returned (.tuple #[.agg #[.int .u64 (u pf0.a.hi), .int .u64 (u pf0.a.lo), .bool pf0.a.v6, .int .i64 pf0.n], .int .i64 1]) ∧ Below w.heap.size w w' := fun w he => by
    have h := parse_any ⟨#[50, 48, 48, 49, 58, 68, 66, 56, 58, 48, 58, 48, 58, 49, 58, 48, 58, 48, 58, 49, 47, 54, 52]⟩ w he (by decide)
    rw [show (⟨#[50, 48, 48, 49, 58, 68, 66, 56, 58, 48, 58, 48, 58, 49, 58, 48, 58, 48, 58, 49, 47, 54, 52]⟩ : ByteArray).data.toList = ex3A from rfl, ex3_one] at h
    exact h
  have c2 : ∀ w, Env w → Calls Tryd.prog 7 #[.string ⟨#[50, 48, 48, 49, 58, 100, 98, 56, 58, 58, 47, 51, 50]⟩] w fun e w' => e = .returned (.tuple #[.agg #[.int .u64 (u exP3.a.hi), .int .u64 (u exP3.a.lo), .bool exP3.a.v6, .int .i64 exP3.n], .int .i64 0]) ∧ Below w.heap.size w w' := fun w he => by
    have h := parse_any ⟨#[50, 48, 48, 49, 58, 100, 98, 56, 58, 58, 47, 51, 50]⟩ w he (by decide)
    rw [show (⟨#[50, 48, 48, 49, 58, 100, 98, 56, 58, 58, 47, 51, 50]⟩ : ByteArray).data.toList = ex3B from rfl, ex3_two] at h
    exact h
  have c3 : ∀ w, Env w → Calls Tryd.prog 11 #[.agg #[.int .u64 (u exP3.a.hi), .int .u64 (u exP3.a.lo), .bool exP3.a.v6, .int .i64 exP3.n]] w fun e w' => e = .returned (.string ⟨#[50, 48, 48, 49, 58, 100, 98, 56, 58, 58, 47, 51, 50]⟩) ∧ Below w.heap.size w w' := fun w he => by
    have h := print_any exP3 (by decide) (by decide) w he
    rw [ex3_print] at h
    exact h
  have C1 := fun w he => Lib.hid (c1 w he)
  have C2 := fun w he => Lib.hid (c2 w he)
  have C3 := fun w he => Lib.hid (c3 w he)
  clear c1 c2 c3
  have hn : exP3.n = 32 := rfl
  go_enter Tryd.func4, Tryd.ntmps4
  go_wp2_with fail
  refine (C1 _ he).out.mono ?_
  rintro e w1 ⟨rfl, hw1⟩
  have e1 := he.go hw1
  have z1 := hw1.size
  go_wp2_with fail
  generalize hW2 : World.alloc _ _ = W2
  have z2 : w1.heap.size < W2.heap.size := by subst hW2; go_size
  have b2 : Below w.heap.size w W2 := by subst hW2; go_grown
  clear hW2
  refine (C2 _ (he.go b2)).out.mono ?_
  rintro e w3 ⟨rfl, hw3⟩
  have z3 := hw3.size
  have b3 := b2.trans (hw3.mono (by omega))
  go_wp2_with fail
  generalize hW4 : World.alloc _ _ = W4
  have z4 : w3.heap.size < W4.heap.size := by subst hW4; go_size
  have b4 : Below w.heap.size w W4 := by subst hW4; go_grown
  obtain ⟨pa, pb, pc, pg, pd, pe, pf, ph, pz⟩ : PBox W4 w3.heap.size exP3 := by
    subst hW4
    refine ⟨?_, ?_, ?_, ?_, ?_, ?_, ?_, ?_, ?_⟩ <;> first | (go_simp; done) | (go_simp <;> rfl) | go_size
  clear hW4
  refine (C3 _ (he.go b4)).out.mono ?_
  rintro e w5 ⟨rfl, hw5⟩
  have z5 := hw5.size
  have b5 := b4.trans (hw5.mono (by omega))
  obtain ⟨qa, qb, qc, qg, qd, qe, qf, qh, qz⟩ := cells4 hw5 pz pa pb pc pg pd pe pf ph
  clear pa pb pc pg pd pe pf ph pz
  go_wp2
  go_ret
  exact ⟨rfl, b5⟩

theorem parsePrint_any (a : Ad) (w : World) (he : Env w) :
    Calls Tryd.prog 5 #[.string ⟨(printA a).toArray⟩] w fun e w' => e = .returned (.tuple #[.agg #[.int .u64 (u (norm a).hi), .int .u64 (u (norm a).lo), .bool (norm a).v6], .int .i64 0]) ∧ Below w.heap.size w w' := by
  have h := parseAddr_any ⟨(printA a).toArray⟩ w he (by rw [ba_size]; have := printA_le a; omega)
  rw [bl, parse_print] at h
  exact h
theorem printP_le (p : Pf) (h0 : -9223372036854775808 ≤ p.n) (h1 : p.n ≤ 9223372036854775807) : (printP p).length ≤ 101 := by
  unfold printP
  have := printA_le p.a
  have := itoa_le p.n h0 h1
  simp only [List.length_append, List.length_cons, List.length_nil]
  omega
theorem parsePrintP_any (p q : Pf) (f : Int) (hq : parseP (printP p) = (q, f)) (h0 : -9223372036854775808 ≤ p.n) (h1 : p.n ≤ 9223372036854775807) (w : World) (he : Env w) :
    Calls Tryd.prog 7 #[.string ⟨(printP p).toArray⟩] w fun e w' => e = .returned (.tuple #[.agg #[.int .u64 (u q.a.hi), .int .u64 (u q.a.lo), .bool q.a.v6, .int .i64 q.n], .int .i64 f]) ∧ Below w.heap.size w w' := by
  have h := parse_any ⟨(printP p).toArray⟩ w he (by rw [ba_size]; have := printP_le p h0 h1; omega)
  rw [bl, hq] at h
  exact h
theorem saneB_iff (a : Ad) : saneB a = true ↔ norm a = a := by
  rw [← adEq_iff]
  unfold saneB adEq adB
  have e : (norm a).v6 = a.v6 := rfl
  simp [e]
theorem saneB_ad (a : Ad) : adB (u (norm a).hi) (u (norm a).lo) (norm a).v6 (u a.hi) (u a.lo) a.v6 = saneB a := by
  have h : adB (u (norm a).hi) (u (norm a).lo) (norm a).v6 (u a.hi) (u a.lo) a.v6 = adEq (norm a) a := rfl
  rw [h, Bool.eq_iff_iff, adEq_iff, saneB_iff]
theorem back_sane (p : Pf) (hp : psane p = true) : parseP (printP p) = (p, 0) := by
  obtain ⟨h1, h2, h3, _⟩ := (psane_iff p).1 hp
  have hw := wid_bd p.a.v6
  rw [parse_printP, if_pos (by omega), h1, if_pos hp]
theorem back_insane (p : Pf) (hp : psane p = false) (ha : saneB p.a = true) : parseP (printP p) = (pf0, 1) ∨ parseP (printP p) = (pf0, 5) := by
  have h1 := (saneB_iff p.a).1 ha
  rw [parse_printP]
  split
  · rw [h1, if_neg (by rw [hp]; simp)]
    exact .inl rfl
  · exact .inr rfl

end Go.Proofs.YtfebhfghjdedhaaDoor
