/-
  TextCase returns true, whatever address. Condition: the library's tables hold what its text lays.
-/
import Derived.Test.YtgmlpcmplglnoaaDoorTw
import Derived.Test.YtgmlpcmplglnoaaDoorTx
import Derived.Lib.ConvBytes
namespace Go.Proofs.YtgmlpcmplglnoaaDoor
open Go.RowKit
set_option maxRecDepth 100000

theorem print_len0 (a : Ad) : (printA a).length ≤ 80 := printA_le a
/-- Where the first colon is; the end, if there is none. -/
def fcol : List UInt8 → Nat
  | [] => 0
  | b :: t => if b = 58 then 0 else fcol t + 1
theorem fcol_at : ∀ (h r : List UInt8), (58 : UInt8) ∉ h → fcol (h ++ 58 :: r) = h.length
  | [], _, _ => rfl
  | b :: h, r, hn => by
    have h1 : ¬ b = 58 := fun e => hn (by simp [e])
    show (if b = 58 then 0 else fcol (h ++ 58 :: r) + 1) = _
    rw [if_neg h1, fcol_at h r (fun e => hn (by simp [e])), List.length_cons]

/-- The row of bytes: those from place j on are great. -/
structure CaseRow (l : List UInt8) (j : Nat) (W wr : World) : Prop where
  cell : ∀ i (h : i < l.length), wr.cell? ⟨W.heap.size, i, none⟩ = some (.int .u8 (((if j ≤ i then upB l[i] else l[i]) : UInt8).toNat : Int))
  frozen : ∀ i, i < l.length → wr.frozen? ⟨W.heap.size, i, none⟩ = false
  lt : W.heap.size < wr.heap.size
  below : Below W.heap.size W wr
theorem CaseRow.start (l : List UInt8) (W : World) (e : TypeId) : CaseRow l l.length W (Lib.bytesWorld W e ⟨l.toArray⟩) := by
  refine ⟨fun i h => ?_, fun i h => ?_, by rw [Lib.bytesWorld_size]; omega, Joins.below_bytesWorld _ _ _ _ (Nat.le_refl _)⟩
  · rw [Lib.bytesWorld_cell W e ⟨l.toArray⟩ i (by rw [ba_size]; exact h), if_neg (by omega)]
    simp [List.getD, h]
  · have hs : i < (Lib.bytesCells W e ⟨l.toArray⟩).size := by
      simp [Lib.bytesCells]
      omega
    simp only [World.frozen?, Lib.bytesWorld_at_new]
    simp
    omega
theorem fcol_step (l : List UInt8) (p : Nat) (h : p < l.length) : fcol (l.drop p) = if l[p] = 58 then 0 else fcol (l.drop (p + 1)) + 1 := by
  rw [List.drop_eq_getElem_cons h]
  rfl
theorem CaseRow.same {l : List UInt8} {p : Nat} {W wr : World} (h : CaseRow l (p + 1) W wr) (hp : p < l.length) (hn : ¬ (97 ≤ l[p].toNat ∧ l[p].toNat ≤ 102)) : CaseRow l p W wr := by
  refine ⟨fun i hi => ?_, h.frozen, h.lt, h.below⟩
  rw [h.cell i hi]
  by_cases e : i = p
  · subst e
    rw [if_neg (by omega), if_pos (Nat.le_refl _)]
    unfold upB
    rw [if_neg hn]
  · by_cases h1 : p ≤ i
    · rw [if_pos h1, if_pos (by omega)]
    · rw [if_neg h1, if_neg (by omega)]
theorem CaseRow.put {l : List UInt8} {p : Nat} {W wr : World} (h : CaseRow l (p + 1) W wr) (hp : p < l.length) (v : Int) (hv : v = ((upB l[p]).toNat : Int)) : CaseRow l p W (wr.setCell ⟨W.heap.size, p, none⟩ (.int .u8 v)) := by
  refine ⟨fun i hi => ?_, fun i hi => ?_, by simpa using h.lt, h.below.setCell (by simp) _⟩
  · by_cases e : i = p
    · subst e
      rw [World.cell?_setCell_same _ _ _ (h.cell i hp), if_pos (Nat.le_refl _), hv]
    · rw [World.cell?_setCell_other _ _ _ _ (fun e2 => by injection e2; omega), h.cell i hi]
      by_cases h1 : p ≤ i
      · rw [if_pos h1, if_pos (by omega)]
      · rw [if_neg h1, if_neg (by omega)]
  · rw [World.frozen?_setCell]
    exact h.frozen i hi

set_option maxHeartbeats 1000000 in
theorem textCase_gen (a z : Ad) (g : Int) (cz : ∀ w, Env w → Calls Tryd.prog 10 #[.string (⟨#[48]⟩ ++ ⟨(printA a).toArray⟩)] w fun e w' => e = .returned (.tuple #[.agg #[.int .u64 (u z.hi), .int .u64 (u z.lo), .bool z.v6], .int .i64 g]) ∧ Below w.heap.size w w')
    (h3 : (a.v6 = true ∧ fcol (printA a) < 4 ∧ z = norm a ∧ g = 0) ∨ (a.v6 = true ∧ ¬ fcol (printA a) < 4 ∧ g = 5) ∨ (a.v6 = false ∧ g = 5)) (w : World) (he : Env w) :
    Calls Tryd.prog 6 #[.agg #[.int .u64 (u a.hi), .int .u64 (u a.lo), .bool a.v6]] w fun e w' => e = .returned (.bool true) ∧ Below w.heap.size w w' := by
  have hpl := print_len0 a
  have CU : ∀ w, Env w → Hid (Calls Tryd.prog 10 #[.string ⟨((printA a).map upB).toArray⟩] w fun e w' => e = .returned (.tuple #[.agg #[.int .u64 (u (norm a).hi), .int .u64 (u (norm a).lo), .bool (norm a).v6], .int .i64 0]) ∧ Below w.heap.size w w') := fun w he => by
    have h := parseAddr_any ⟨((printA a).map upB).toArray⟩ w he (by rw [ba_size, List.length_map]; omega)
    rw [bl, parse_upper, parse_print] at h
    exact Lib.hid h
  have CP := fun w he => Lib.hid (parsePrint_any a w he)
  have CZ := fun w he => Lib.hid (cz w he)
  have CA := fun w he => Lib.hid (printAddr_any a w he)
  clear cz
  have H3 := Lib.hid h3
  clear h3
  generalize hl : printA a = l at *
  have sz : ((⟨#[48]⟩ : ByteArray).size + (⟨l.toArray⟩ : ByteArray).size) ≤ 9223372036854775807 := by rw [ba_size]; simp [ByteArray.size]; omega
  have hcv1 := fun W => Lib.run_convert_string_bytes (P := Tryd.prog) W 9 40 5 ⟨l.toArray⟩ Tryd.underlying9 Tryd.underlying40 Tryd.underlying5
  rw [ba_size] at hcv1
  go_enter Tryd.func6, Tryd.ntmps6
  go_wp2_with fail
  refine (awake3_any _ (he.go (by go_grown))).mono ?_
  rintro e w1 ⟨rfl, hw1⟩
  have zw1 := hw1.size
  have bw1 := below_of (w := w) (by go_grown) hw1
  try simp at zw1
  obtain ⟨a1a, a1b, a1c, a1d, a1e, a1f, a1z⟩ := cells3 (b := w.heap.size) hw1 (by go_size) (by go_simp <;> rfl) (by go_simp <;> rfl) (by go_simp <;> rfl) (by go_simp <;> rfl) (by go_simp <;> rfl) (by go_simp <;> rfl)
  clear hw1
  go_wp2_with fail
  refine ((CA _ (he.go (by go_grown))).out).mono ?_
  rintro e w2 ⟨rfl, hw2⟩
  have zw2 := hw2.size
  have bw2 := below_of (w := w) (by go_grown) hw2
  try simp at zw2
  have hw1b := below_of (w := w1) (by go_grown) hw2
  obtain ⟨a2a, a2b, a2c, a2d, a2e, a2f, a2z⟩ := cells3 hw1b a1z a1a a1b a1c a1d a1e a1f
  clear a1a a1b a1c a1d a1e a1f a1z hw2 hw1b
  go_wp2_with fail
  generalize grownCap w2 l.length 0 5 = cap
  have hst := Lib.hid (CaseRow.start l w2 5)
  generalize Lib.bytesWorld w2 5 ⟨l.toArray⟩ = w3 at *
  clear hcv1
  go_loopw [6, 7] (fun kv iv wr => ∃ j : Nat, j ≤ l.length ∧ iv = .int .i64 ((j : Int) - 1) ∧ kv = .int .i64 ((j + fcol (l.drop j) : Nat) : Int) ∧ Hid (CaseRow l j w2 wr)) (fun _ iv _ => (intOf iv + 1).toNat)
  case atStart =>
    refine ⟨l.length, Nat.le_refl _, rfl, ?_, hst⟩
    rw [List.drop_eq_nil_of_le (Nat.le_refl _)]
    rfl
  case round =>
    obtain ⟨j, hj, hiv, hkv, hR⟩ := hrel
    clear hst
    by_cases h0 : j = 0
    · subst h0
      have hiv' : u7 = .int .i64 (-1) := hiv
      have hkv' : u6 = .int .i64 ((fcol l : Nat) : Int) := by rw [hkv, List.drop_zero, Nat.zero_add]
      clear hiv hkv
      subst hiv' hkv'
      have hcv2 : (convert 40 9 (.slice (some ⟨w2.heap.size, 0, none⟩) l.length cap)).run Tryd.prog wr = .ok (.string ⟨(l.map upB).toArray⟩) wr := by
        have h := run_convert_bytes_back (P := Tryd.prog) wr 40 9 5 ⟨w2.heap.size, 0, none⟩ cap (l.map upB) Tryd.underlying40 Tryd.underlying5 Tryd.underlying9 (fun i hi => by
          rw [addr_add, Nat.zero_add, hR.out.cell i (by simpa using hi), if_pos (Nat.zero_le _)]
          simp)
        rw [List.length_map] at h
        exact h
      have bwr : Below w.heap.size w wr := bw2.trans (hR.out.below.mono (by omega))
      obtain ⟨aQa, aQb, aQc, aQd, aQe, aQf, aQz⟩ := cells3 hR.out.below a2z a2a a2b a2c a2d a2e a2f
      have zwr := bwr.size
      clear a2a a2b a2c a2d a2e a2f a2z hR
      rcases H3.out with ⟨hv6, hk4, rfl, rfl⟩ | ⟨hv6, hk4, rfl⟩ | ⟨hv6, rfl⟩
      · have hk5 : ((fcol l : Nat) : Int) < 4 := by omega
        clear H3 hl
        go_wp2_with fail
        refine ((CU _ (he.go (by go_grown))).out).mono ?_
        rintro e w4 ⟨rfl, hw4⟩
        have zw4 := hw4.size
        have bw4 := below_of (w := w) (by go_grown) hw4
        try simp at zw4
        have hwrb := below_of (w := wr) (by go_grown) hw4
        obtain ⟨a3a, a3b, a3c, a3d, a3e, a3f, a3z⟩ := cells3 hwrb aQz aQa aQb aQc aQd aQe aQf
        clear aQa aQb aQc aQd aQe aQf aQz hw4 hwrb
        go_wp2_with fail
        refine ((CP _ (he.go (by go_grown))).out).mono ?_
        rintro e w5 ⟨rfl, hw5⟩
        have zw5 := hw5.size
        have bw5 := below_of (w := w) (by go_grown) hw5
        try simp at zw5
        have hw4b := below_of (w := w4) (by go_grown) hw5
        obtain ⟨a4a, a4b, a4c, a4d, a4e, a4f, a4z⟩ := cells3 hw4b a3z a3a a3b a3c a3d a3e a3f
        obtain ⟨x4a, x4b, x4c, x4d, x4e, x4f, x4z⟩ := cells3 (b := w4.heap.size) hw5 (by go_size) (by go_simp <;> rfl) (by go_simp <;> rfl) (by go_simp <;> rfl) (by go_simp <;> rfl) (by go_simp <;> rfl) (by go_simp <;> rfl)
        clear a3a a3b a3c a3d a3e a3f a3z hw5 hw4b
        go_wp2_with fail
        refine ((CZ _ (he.go (by go_grown))).out).mono ?_
        rintro e w6 ⟨rfl, hw6⟩
        have zw6 := hw6.size
        have bw6 := below_of (w := w) (by go_grown) hw6
        try simp at zw6
        have hw5b := below_of (w := w5) (by go_grown) hw6
        obtain ⟨a5a, a5b, a5c, a5d, a5e, a5f, a5z⟩ := cells3 hw5b a4z a4a a4b a4c a4d a4e a4f
        obtain ⟨x5a, x5b, x5c, x5d, x5e, x5f, x5z⟩ := cells3 hw5b x4z x4a x4b x4c x4d x4e x4f
        obtain ⟨y5a, y5b, y5c, y5d, y5e, y5f, y5z⟩ := cells3 (b := w5.heap.size) hw6 (by go_size) (by go_simp <;> rfl) (by go_simp <;> rfl) (by go_simp <;> rfl) (by go_simp <;> rfl) (by go_simp <;> rfl) (by go_simp <;> rfl)
        clear a4a a4b a4c a4d a4e a4f a4z x4a x4b x4c x4d x4e x4f x4z hw6 hw5b
        go_wp2
        go_ret
        refine ⟨rfl, ?_⟩
        go_grown
      · have hk5 : ¬ ((fcol l : Nat) : Int) < 4 := by omega
        clear H3 hl
        go_wp2_with fail
        refine ((CU _ (he.go (by go_grown))).out).mono ?_
        rintro e w4 ⟨rfl, hw4⟩
        have zw4 := hw4.size
        have bw4 := below_of (w := w) (by go_grown) hw4
        try simp at zw4
        have hwrb := below_of (w := wr) (by go_grown) hw4
        obtain ⟨a6a, a6b, a6c, a6d, a6e, a6f, a6z⟩ := cells3 hwrb aQz aQa aQb aQc aQd aQe aQf
        clear aQa aQb aQc aQd aQe aQf aQz hw4 hwrb
        go_wp2_with fail
        refine ((CP _ (he.go (by go_grown))).out).mono ?_
        rintro e w5 ⟨rfl, hw5⟩
        have zw5 := hw5.size
        have bw5 := below_of (w := w) (by go_grown) hw5
        try simp at zw5
        have hw4b := below_of (w := w4) (by go_grown) hw5
        obtain ⟨a7a, a7b, a7c, a7d, a7e, a7f, a7z⟩ := cells3 hw4b a6z a6a a6b a6c a6d a6e a6f
        obtain ⟨x7a, x7b, x7c, x7d, x7e, x7f, x7z⟩ := cells3 (b := w4.heap.size) hw5 (by go_size) (by go_simp <;> rfl) (by go_simp <;> rfl) (by go_simp <;> rfl) (by go_simp <;> rfl) (by go_simp <;> rfl) (by go_simp <;> rfl)
        clear a6a a6b a6c a6d a6e a6f a6z hw5 hw4b
        go_wp2_with fail
        refine ((CZ _ (he.go (by go_grown))).out).mono ?_
        rintro e w6 ⟨rfl, hw6⟩
        have zw6 := hw6.size
        have bw6 := below_of (w := w) (by go_grown) hw6
        try simp at zw6
        have hw5b := below_of (w := w5) (by go_grown) hw6
        obtain ⟨a8a, a8b, a8c, a8d, a8e, a8f, a8z⟩ := cells3 hw5b a7z a7a a7b a7c a7d a7e a7f
        obtain ⟨x8a, x8b, x8c, x8d, x8e, x8f, x8z⟩ := cells3 hw5b x7z x7a x7b x7c x7d x7e x7f
        obtain ⟨y8a, y8b, y8c, y8d, y8e, y8f, y8z⟩ := cells3 (b := w5.heap.size) hw6 (by go_size) (by go_simp <;> rfl) (by go_simp <;> rfl) (by go_simp <;> rfl) (by go_simp <;> rfl) (by go_simp <;> rfl) (by go_simp <;> rfl)
        clear a7a a7b a7c a7d a7e a7f a7z x7a x7b x7c x7d x7e x7f x7z hw6 hw5b
        go_wp2
        go_ret
        refine ⟨rfl, ?_⟩
        go_grown
      · clear H3 hl
        go_wp2_with fail
        refine ((CU _ (he.go (by go_grown))).out).mono ?_
        rintro e w4 ⟨rfl, hw4⟩
        have zw4 := hw4.size
        have bw4 := below_of (w := w) (by go_grown) hw4
        try simp at zw4
        have hwrb := below_of (w := wr) (by go_grown) hw4
        obtain ⟨a9a, a9b, a9c, a9d, a9e, a9f, a9z⟩ := cells3 hwrb aQz aQa aQb aQc aQd aQe aQf
        clear aQa aQb aQc aQd aQe aQf aQz hw4 hwrb
        go_wp2_with fail
        refine ((CP _ (he.go (by go_grown))).out).mono ?_
        rintro e w5 ⟨rfl, hw5⟩
        have zw5 := hw5.size
        have bw5 := below_of (w := w) (by go_grown) hw5
        try simp at zw5
        have hw4b := below_of (w := w4) (by go_grown) hw5
        obtain ⟨a10a, a10b, a10c, a10d, a10e, a10f, a10z⟩ := cells3 hw4b a9z a9a a9b a9c a9d a9e a9f
        obtain ⟨x10a, x10b, x10c, x10d, x10e, x10f, x10z⟩ := cells3 (b := w4.heap.size) hw5 (by go_size) (by go_simp <;> rfl) (by go_simp <;> rfl) (by go_simp <;> rfl) (by go_simp <;> rfl) (by go_simp <;> rfl) (by go_simp <;> rfl)
        clear a9a a9b a9c a9d a9e a9f a9z hw5 hw4b
        go_wp2_with fail
        refine ((CZ _ (he.go (by go_grown))).out).mono ?_
        rintro e w6 ⟨rfl, hw6⟩
        have zw6 := hw6.size
        have bw6 := below_of (w := w) (by go_grown) hw6
        try simp at zw6
        have hw5b := below_of (w := w5) (by go_grown) hw6
        obtain ⟨a11a, a11b, a11c, a11d, a11e, a11f, a11z⟩ := cells3 hw5b a10z a10a a10b a10c a10d a10e a10f
        obtain ⟨x11a, x11b, x11c, x11d, x11e, x11f, x11z⟩ := cells3 hw5b x10z x10a x10b x10c x10d x10e x10f
        obtain ⟨y11a, y11b, y11c, y11d, y11e, y11f, y11z⟩ := cells3 (b := w5.heap.size) hw6 (by go_size) (by go_simp <;> rfl) (by go_simp <;> rfl) (by go_simp <;> rfl) (by go_simp <;> rfl) (by go_simp <;> rfl) (by go_simp <;> rfl)
        clear a10a a10b a10c a10d a10e a10f a10z x10a x10b x10c x10d x10e x10f x10z hw6 hw5b
        go_wp2
        go_ret
        refine ⟨rfl, ?_⟩
        go_grown
    · obtain ⟨p, rfl⟩ : ∃ p, j = p + 1 := ⟨j - 1, by omega⟩
      have hp : p < l.length := by omega
      rw [show ((p + 1 : Nat) : Int) - 1 = (p : Int) by omega] at hiv
      subst hiv
      have hck := hR.out.cell p hp
      rw [if_neg (by omega)] at hck
      have hfk := hR.out.frozen p hp
      have hgt := hR.out.lt
      have hfc := fcol_step l p hp
      have hup := upB_nat l[p]
      have hsame := fun hn => CaseRow.same hR.out hp hn
      have hput := fun v hv => CaseRow.put hR.out hp v hv
      obtain ⟨b, hb⟩ : ∃ b : Int, b = (l[p].toNat : Int) := ⟨_, rfl⟩
      rw [← hb] at hck
      have hp' : (p : Int) < (l.length : Int) := by omega
      have hp0 : (0 : Int) ≤ (p : Int) := by omega
      by_cases h58 : l[p] = 58
      · have hb58 : b = 58 := by rw [hb, h58]; rfl
        subst hb58
        rw [if_pos h58] at hfc
        have HS := Lib.hid (hsame (by omega))
        have HF := Lib.hid hfc
        clear hfc hup hsame hput hb hR h58
        go_wp2_with fail
        refine ⟨⟨p, by omega, rfl, by rw [HF.out]; rfl, HS⟩, by simp [intOf]⟩
      · rw [if_neg h58] at hfc
        have hb58 : (b == 58) = false := by
          rw [beq_eq_false_iff_ne]
          intro e
          apply h58
          apply UInt8.toNat_inj.1
          show l[p].toNat = 58
          omega
        by_cases hlet : 97 ≤ b ∧ b ≤ 102
        · obtain ⟨l1, l2⟩ := hlet
          have hv : b - 97 + 65 = ((upB l[p]).toNat : Int) := by rw [hup, if_pos (by omega)]; omega
          have HS := Lib.hid (hput _ hv)
          have HF := Lib.hid hfc
          have HK := Lib.hid hkv
          clear hfc hup hsame hput hb hR h58 hv hkv
          go_wp2_with fail
          refine ⟨⟨p, by omega, rfl, by first | (rw [HK.out, HF.out]; done) | (rw [HK.out, HF.out]; congr 1; done) | (rw [HK.out, HF.out]; congr 1; omega), HS⟩, by simp [intOf]⟩
        · have HS := Lib.hid (hsame (by omega))
          have HF := Lib.hid hfc
          have HK := Lib.hid hkv
          clear hfc hup hsame hput hb hR h58 hkv
          by_cases l1 : 97 ≤ b
          · have l2 : ¬ b ≤ 102 := by omega
            clear hlet
            go_wp2_with fail
            refine ⟨⟨p, by omega, rfl, by first | (rw [HK.out, HF.out]; done) | (rw [HK.out, HF.out]; congr 1; done) | (rw [HK.out, HF.out]; congr 1; omega), HS⟩, by simp [intOf]⟩
          · clear hlet
            go_wp2_with fail
            refine ⟨⟨p, by omega, rfl, by first | (rw [HK.out, HF.out]; done) | (rw [HK.out, HF.out]; congr 1; done) | (rw [HK.out, HF.out]; congr 1; omega), HS⟩, by simp [intOf]⟩

theorem textCase_law (a : Ad) (w : World) (he : Env w) :
    Calls Tryd.prog 6 #[.agg #[.int .u64 (u a.hi), .int .u64 (u a.lo), .bool a.v6]] w fun e w' => e = .returned (.bool true) ∧ Below w.heap.size w w' := by
  have hap : (⟨#[48]⟩ ++ ⟨(printA a).toArray⟩ : ByteArray) = ⟨(48 :: printA a).toArray⟩ := ba_append [48] (printA a)
  have cp := fun w he => parseAddr_any (⟨#[48]⟩ ++ ⟨(printA a).toArray⟩) w he (by rw [hap, ba_size]; have := printA_le a; simp only [List.length_cons]; omega)
  have hl : (⟨#[48]⟩ ++ ⟨(printA a).toArray⟩ : ByteArray).data.toList = 48 :: printA a := by rw [hap, bl]
  rw [hl] at cp
  rcases Bool.eq_false_or_eq_true a.v6 with hv | hv
  · skip
    obtain ⟨h, r, h1, h2, h3⟩ := zero_six a hv
    have hf : fcol (printA a) = h.length := by rw [h1]; exact fcol_at h r h2
    by_cases h4 : h.length < 4
    · rw [if_pos h4] at h3
      have e0 : erA (some (norm a)) = 0 := rfl
      simp only [h3, Option.getD_some, e0] at cp
      exact textCase_gen a (norm a) 0 cp (.inl ⟨hv, by rw [hf]; exact h4, rfl, rfl⟩) w he
    · rw [if_neg h4] at h3
      have e0 : erA none = 5 := rfl
      simp only [h3, Option.getD_none, e0] at cp
      exact textCase_gen a ad0 5 cp (.inr (.inl ⟨hv, by rw [hf]; exact h4, rfl⟩)) w he
  · skip
    have e0 : erA none = 5 := rfl
    simp only [zero_four a hv, Option.getD_none, e0] at cp
    exact textCase_gen a ad0 5 cp (.inr (.inr ⟨hv, rfl⟩)) w he

end Go.Proofs.YtgmlpcmplglnoaaDoor
