/-
  What text.ParseAddr returns. Conditions: the library's tables hold what its text lays (Env), the text is shorter than the model's bound.
-/
import Derived.Test.YtgmlpcmplglnoaaDoorTl
namespace Go.Proofs.YtgmlpcmplglnoaaDoor
open Go.RowKit
set_option maxRecDepth 100000

def AllB (l : List Int) : Prop := ∀ x ∈ l, 0 ≤ x ∧ x < 256
theorem bytesGo_all {f : List UInt8 → Option (List Int)} (hf : ∀ p bs, f p = some bs → AllB bs) : ∀ (ps : List (List UInt8)) (acc a : List Int), AllB acc → bytesGo f ps acc = some a → AllB a
  | [], acc, a, ha, h => by simp [bytesGo] at h; subst h; exact ha
  | p :: ps, acc, a, ha, h => by
    rw [bytesGo_cons] at h
    cases hp : f p with
    | none => rw [hp] at h; cases h
    | some bs =>
      rw [hp] at h
      refine bytesGo_all hf ps (acc ++ bs) a (fun x hx => ?_) h
      rcases List.mem_append.1 hx with h1 | h1
      · exact ha x h1
      · exact hf p bs hp x h1
theorem one_all (p : List UInt8) (bs : List Int) (h : one p = some bs) : AllB bs := by
  unfold one at h
  cases hn : numL 255 p with
  | none => rw [hn] at h; cases h
  | some n =>
    rw [hn] at h
    simp at h
    subst h
    intro x hx
    simp at hx
    subst hx
    have := numL_bd (by omega) hn
    omega
theorem two_all (p : List UInt8) (bs : List Int) (h : two p = some bs) : AllB bs := by
  unfold two at h
  cases hn : grpL p with
  | none => rw [hn] at h; cases h
  | some n =>
    rw [hn] at h
    simp at h
    subst h
    have := grpL_bd hn
    intro x hx
    simp at hx
    rcases hx with rfl | rfl <;> omega
theorem one_len : ∀ (ps : List (List UInt8)) (acc a : List Int), bytesGo one ps acc = some a → a.length = acc.length + ps.length
  | [], acc, a, h => by simp [bytesGo] at h; subst h; simp
  | p :: ps, acc, a, h => by
    rw [bytesGo_cons] at h
    cases hp : one p with
    | none => rw [hp] at h; cases h
    | some bs =>
      rw [hp] at h
      have h2 := one_len ps (acc ++ bs) a h
      have hb : bs.length = 1 := by
        unfold one at hp
        cases hg : numL 255 p with
        | none => rw [hg] at hp; cases hp
        | some n => rw [hg] at hp; simp at hp; subst hp; rfl
      rw [h2, List.length_append, List.length_cons, hb]
      omega
theorem shortL_spec {l : List UInt8} {bs : List Int} (h : shortL l = some bs) : bs.length = 4 ∧ AllB bs := by
  unfold shortL at h
  split at h
  · rename_i h4
    have := one_len _ _ _ h
    exact ⟨by rw [this, h4]; rfl, bytesGo_all one_all _ _ _ (fun x hx => by cases hx) h⟩
  · cases h
theorem grsL_all {l : List UInt8} {bs : List Int} (h : grsL l = some bs) : AllB bs := by
  unfold grsL at h
  split at h
  · simp at h; subst h; intro x hx; cases hx
  · exact bytesGo_all two_all _ _ _ (fun x hx => by cases hx) h
theorem longL_spec {l : List UInt8} {bs : List Int} (h : longL l = some bs) : bs.length = 16 ∧ AllB bs := by
  cases h1 : grsL (Lib.cut l [58, 58]).1 with
  | none => rw [longL_none1 h1] at h; cases h
  | some a =>
    cases h2 : grsL (Lib.cut l [58, 58]).2.1 with
    | none => rw [longL_none2 h2] at h; cases h
    | some b =>
      rw [longL_some h1 h2] at h
      split at h
      · rename_i hc
        simp only [Option.some.injEq] at h
        subst h
        refine ⟨by simp; omega, fun x hx => ?_⟩
        rcases List.mem_append.1 hx with h3 | h3
        · rcases List.mem_append.1 h3 with h4 | h4
          · exact grsL_all h1 x h4
          · have := (List.mem_replicate.1 h4).2
            omega
        · exact grsL_all h2 x h3
      · cases h

def at0 (l : List Int) (j : Nat) : Int := l.getD j 0
theorem at0_bd {l : List Int} (h : AllB l) (j : Nat) (hj : j < l.length) : 0 ≤ at0 l j ∧ at0 l j < 256 := by
  unfold at0
  rw [List.getD_eq_getElem?_getD, List.getElem?_eq_getElem hj]
  exact h _ (List.getElem_mem hj)
theorem u8s_at (l : List Int) (j : Nat) (hj : j < l.length) : (u8s l)[j]? = some (.int .u8 (at0 l j)) := by
  unfold u8s at0
  rw [List.getElem?_map, List.getD_eq_getElem?_getD, List.getElem?_eq_getElem hj]
  rfl
/-- A written address. -/
def parseA (l : List UInt8) : Option Ad := match shortL l with
  | some bs => some (fromv (at0 bs) false)
  | none => (longL l).map fun bs => fromv (at0 bs) true
def ad0 : Ad := ⟨0#64, 0#64, false⟩
def erA (o : Option Ad) : Int := if o.isSome then 0 else 5
theorem parseA_short {l : List UInt8} {bs : List Int} (h : shortL l = some bs) : parseA l = some (fromv (at0 bs) false) := by unfold parseA; rw [h]
theorem parseA_long {l : List UInt8} {bs : List Int} (h : shortL l = none) (h2 : longL l = some bs) : parseA l = some (fromv (at0 bs) true) := by unfold parseA; rw [h, h2]; rfl
theorem parseA_none {l : List UInt8} (h : shortL l = none) (h2 : longL l = none) : parseA l = none := by unfold parseA; rw [h, h2]; rfl

set_option maxHeartbeats 2000000 in
theorem parseAddr_any (s : ByteArray) (w : World) (he : Env w) (hs : s.size < 4294967281) :
    Calls Tryd.prog 10 #[.string s] w fun e w' => e = .returned (.tuple #[.agg #[.int .u64 (u ((parseA s.data.toList).getD ad0).hi), .int .u64 (u ((parseA s.data.toList).getD ad0).lo), .bool ((parseA s.data.toList).getD ad0).v6], .int .i64 (erA (parseA s.data.toList))]) ∧ Below w.heap.size w w' := by
  go_enter Tryd.func10, Tryd.ntmps10
  go_wp2_with fail
  generalize hW1 : World.alloc _ _ = W1
  have z1 : w.heap.size < W1.heap.size := by subst hW1; go_size
  have b1 : Below w.heap.size w W1 := by subst hW1; go_grown
  have e1 := he.go b1
  obtain ⟨pa, pb, pc, pd, pe, pf, pz⟩ : Box W1 w.heap.size ad0 := by
    subst hW1
    refine ⟨?_, ?_, ?_, ?_, ?_, ?_, ?_⟩ <;> first | (go_simp; done) | (go_simp <;> rfl) | go_size
  clear hW1
  refine (parseShort_any s W1 e1 hs).mono ?_
  rintro e w2 ⟨v2, rfl, hown2, hw2⟩
  have z2 := hw2.size
  have b2 := b1.trans (hw2.mono (Nat.le_of_lt z1))
  have e2 := e1.go hw2
  obtain ⟨qa, qb, qc, qd, qe, qf, qz⟩ := cells3 hw2 pz pa pb pc pd pe pf
  clear pa pb pc pd pe pf pz
  cases hS : shortL s.data.toList with
  | some bs =>
    obtain ⟨hl, hall⟩ := shortL_spec hS
    rw [hS] at hown2
    simp only [Option.getD_some] at hown2
    obtain ⟨g, cap, hv, hgb, hgl⟩ := hown2.form (by omega)
    have hcl := hown2.cells (g := g) (by rw [hv]; rfl)
    subst hv
    rw [hl]
    have HR := Lib.hid (parseA_short hS)
    have cf := from_four g 0 cap (at0 bs) (fun j hj => at0_bd hall j (by omega)) w2 hgl (fun j hj => by
      have e := hcl j _ (u8s_at bs j (by omega))
      rw [addr_add, Nat.zero_add] at e
      rw [Nat.zero_add]
      exact e)
    clear hcl hown2 hS
    go_wp2_with fail
    refine cf.mono ?_
    rintro e w3 ⟨rfl, hw3⟩
    have z3 := hw3.size
    have b3 := b2.trans (hw3.mono (by omega))
    obtain ⟨ra, rb, rc, rd, re, rf, rz⟩ := cells3 hw3 (by omega) qa qb qc qd qe qf
    clear qa qb qc qd qe qf qz cf
    go_wp2
    refine bodyPost_ret (v := .tuple #[.agg #[.int .u64 (u (fromv (at0 bs) false).hi), .int .u64 (u (fromv (at0 bs) false).lo), .bool (fromv (at0 bs) false).v6], .int .i64 0]) (by simp [*, results, Tryd.results10, go_sem] <;> rfl) rfl ⟨by rw [HR.out]; rfl, ?_⟩
    go_grown
  | none =>
    rw [hS] at hown2
    obtain ⟨A2, c2, rfl⟩ := own_form hown2
    clear hown2
    have cl := parseLong_any s w2 e2 hs
    go_wp2_with fail
    refine cl.mono ?_
    rintro e w3 ⟨v3, rfl, hown3, hw3⟩
    have z3 := hw3.size
    have b3 := b2.trans (hw3.mono (by omega))
    obtain ⟨ra, rb, rc, rd, re, rf, rz⟩ := cells3 hw3 (by omega) qa qb qc qd qe qf
    clear qa qb qc qd qe qf qz cl
    cases hL : longL s.data.toList with
    | none =>
      have HR := Lib.hid (parseA_none hS hL)
      rw [hL] at hown3
      obtain ⟨A3, c3, rfl⟩ := own_form hown3
      clear hown3 hS hL
      go_wp2
      refine bodyPost_ret (v := .tuple #[.agg #[.int .u64 0, .int .u64 0, .bool false], .int .i64 5]) (by simp [*, results, Tryd.results10, go_sem] <;> rfl) rfl ⟨by rw [HR.out]; rfl, ?_⟩
      go_grown
    | some bs =>
      obtain ⟨hl, hall⟩ := longL_spec hL
      rw [hL] at hown3
      simp only [Option.getD_some] at hown3
      obtain ⟨g, cap, hv, hgb, hgl⟩ := hown3.form (by omega)
      have hcl := hown3.cells (g := g) (by rw [hv]; rfl)
      subst hv
      rw [hl]
      have HR := Lib.hid (parseA_long hS hL)
      have cf := from_six g 0 cap (at0 bs) (fun j hj => at0_bd hall j (by omega)) w3 hgl (fun j hj => by
        have e := hcl j _ (u8s_at bs j (by omega))
        rw [addr_add, Nat.zero_add] at e
        rw [Nat.zero_add]
        exact e)
      clear hcl hown3 hS hL
      go_wp2_with fail
      refine cf.mono ?_
      rintro e w4 ⟨rfl, hw4⟩
      have z4 := hw4.size
      have b4 := b3.trans (hw4.mono (by omega))
      obtain ⟨sa, sb, sc, sd, se, sf, sz⟩ := cells3 hw4 (by omega) ra rb rc rd re rf
      clear ra rb rc rd re rf rz cf
      go_wp2
      refine bodyPost_ret (v := .tuple #[.agg #[.int .u64 (u (fromv (at0 bs) true).hi), .int .u64 (u (fromv (at0 bs) true).lo), .bool (fromv (at0 bs) true).v6], .int .i64 0]) (by simp [*, results, Tryd.results10, go_sem] <;> rfl) rfl ⟨by rw [HR.out]; rfl, ?_⟩
      go_grown

end Go.Proofs.YtgmlpcmplglnoaaDoor
