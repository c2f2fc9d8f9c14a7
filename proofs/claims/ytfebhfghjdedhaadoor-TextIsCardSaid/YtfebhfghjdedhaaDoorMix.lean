/-
  A region that draws its order, in which some calls hand back a fresh block (so their value is not one in all orders) that one other operation each reads to a value that is one in all orders. One walk in the order of the text, such a call and its reader left out of it, serves every order. No condition.
-/
import Derived.Test.YtfebhfghjdedhaaDoorBv
import Derived.StillTail
namespace Go.Proofs.YtfebhfghjdedhaaDoor
open Go.RowKit

/-- A call (operation i, slot d, of the one argument arg, whose value is y) and its reader (operation j, slot e), which yields s. -/
structure Pair where
  i : Nat
  j : Nat
  d : Tmp
  e : Tmp
  arg : Operand
  y : Value
  s : Value
  f : FuncId
  Φ : Value → World → Prop

/-- What the walk sees in the place of an operation. -/
def virt : List Pair → Oper → Oper
  | [], o => o
  | p :: ps, o => if o.dst = some p.d then { o with op := .move p.arg } else if o.dst = some p.e then { o with op := .move (.const p.s) } else virt ps o

theorem virt_same (ps : List Pair) (o : Oper) : (virt ps o).dst = o.dst ∧ (virt ps o).after = o.after ∧ (virt ps o).guard = o.guard := by
  induction ps with
  | nil => exact ⟨rfl, rfl, rfl⟩
  | cons p ps ih =>
    unfold virt
    split
    · exact ⟨rfl, rfl, rfl⟩
    · split
      · exact ⟨rfl, rfl, rfl⟩
      · exact ih
theorem virt_norm (ps : List Pair) (o : Oper) (h : ∀ p ∈ ps, o.dst ≠ some p.d ∧ o.dst ≠ some p.e) : virt ps o = o := by
  induction ps with
  | nil => rfl
  | cons p ps ih =>
    unfold virt
    rw [if_neg (h p (by simp)).1, if_neg (h p (by simp)).2]
    exact ih fun q hq => h q (by simp [hq])

section
variable {P : Program} {ops : Array Oper} {md : Region.Mode}

/-- The slots that the guard looks at. -/
def guardAt (ops : Array Oper) (o : Oper) : List Tmp :=
  match o.guard with
  | some (g, _) => ((ops[g]?).bind (·.dst)).toList
  | none => []

/-- What can be reckoned of a region and its pairs. -/
def mixB (ops : Array Oper) (ps : List Pair) : Bool :=
  ((List.range ops.size).all fun k => (List.range ops.size).all fun k' => k == k' || ((ops[k]?).bind (·.dst)) == none || ((ops[k]?).bind (·.dst)) != ((ops[k']?).bind (·.dst))) &&
  (ps.all fun p => ((ops[p.i]?).bind (·.dst)) == some p.d && ((ops[p.j]?).bind (·.dst)) == some p.e &&
    ((ops[p.j]?).map fun o => o.after.any fun e => Region.binds .any e && e.on == p.i).getD false) &&
  ((List.range ops.size).all fun k => ((ops[k]?).map fun o => ((guardAt ops o).all fun t => ps.all fun p => t != p.d) && (ps.any (fun p => k == p.i || k == p.j) || (o.looksAt ops).all fun t => ps.all fun p => t != p.d)).getD true)

theorem virt_size (ps : List Pair) : (ops.map (virt ps)).size = ops.size := by simp
theorem virt_get (ps : List Pair) (k : Nat) : (ops.map (virt ps))[k]? = (ops[k]?).map (virt ps) := by simp
theorem virt_ready (ps : List Pair) (listed : Array Bool) (k : Nat) : k ∈ Region.ready md (ops.map (virt ps)) listed ↔ k ∈ Region.ready md ops listed := by
  rw [mem_ready, mem_ready, virt_get]
  constructor
  · rintro ⟨h, o, ho, ha⟩
    cases hk : ops[k]? with
    | none => rw [hk] at ho; cases ho
    | some o' =>
      rw [hk] at ho
      obtain rfl : virt ps o' = o := by simpa using ho
      exact ⟨h, o', rfl, fun e he hb => ha e (by rw [(virt_same ps o').2.1]; exact he) hb⟩
  · rintro ⟨h, o, ho, ha⟩
    exact ⟨h, virt ps o, by rw [ho]; rfl, fun e he hb => ha e (by rw [(virt_same ps o).2.1] at he; exact he) hb⟩
theorem virt_yielded (ps : List Pair) (tmps : Array Value) (k : Nat) : yielded (ops.map (virt ps)) tmps k = yielded ops tmps k := by
  unfold yielded
  rw [virt_get]
  cases ops[k]? with
  | none => rfl
  | some o =>
    have : (virt ps o).dst = o.dst := (virt_same ps o).1
    simp [this]
theorem virt_wanted (ps : List Pair) (tmps : Array Value) (o : Oper) : Region.wanted (virt ps o) (yielded (ops.map (virt ps)) tmps) = Region.wanted o (yielded ops tmps) := by
  unfold Region.wanted
  rw [(virt_same ps o).2.2]
  cases o.guard with
  | none => rfl
  | some g => simp only [virt_yielded]

/-- A slot that no operation to come writes is the last frame's. -/
theorem end_slot {C : World → Prop} {F : Act} (t : Nat) : ∀ (fuel : Nat) (listed : Array Bool) (a : Act), (∀ k o, ops[k]? = some o → listed.getD k true = false → o.dst ≠ some t) →
    wpAnyQ P md ops C (· = F) fuel listed a → a.tmps[t]? = F.tmps[t]? := by
  intro fuel
  induction fuel with
  | zero => intro listed a _ h; rw [h.2]
  | succ fuel ih =>
    intro listed a hd h
    rcases hr : Region.ready md ops listed with _ | ⟨i, r⟩
    · rw [h.1 hr]
    · have hi : i ∈ Region.ready md ops listed := by rw [hr]; simp
      obtain ⟨hun, o, ho, _⟩ := mem_ready.1 hi
      obtain ⟨v, _, hK⟩ := yieldsIn_of_qOp ho (h.2 i hi)
      have := ih _ _ (fun k o' hk hl => by
        by_cases e : i = k
        · subst e
          exact hd i o' hk hun
        · rw [getD_set_ne true e] at hl
          exact hd k o' hk hl) hK
      rw [← this]
      have hne := hd i o ho hun
      cases hdst : o.dst with
      | none => rfl
      | some t' =>
        have : t' ≠ t := fun e => hne (by rw [hdst, e])
        simp [Act.put, Array.getElem?_setIfInBounds_ne this]

/-- The real frame r and the walk's frame a. -/
structure Rel (ps : List Pair) (B : Nat) (w0 : World) (listed : Array Bool) (a r : Act) (w : World) : Prop where
  size : r.tmps.size = a.tmps.size
  defers : r.defers = a.defers
  agree : ∀ t, (∀ p ∈ ps, t ≠ p.d) → r.tmps[t]? = a.tmps[t]?
  hid : ∀ p ∈ ps, listed.getD p.i false = true → p.Φ (r.eval (.tmp p.d)) w
  below : Below B w0 w

theorem Rel.eval {ps : List Pair} {B : Nat} {w0 : World} {listed : Array Bool} {a r : Act} {w : World} (R : Rel ps B w0 listed a r w) (x : Operand) (h : ∀ p ∈ ps, x ≠ .tmp p.d) : r.eval x = a.eval x := by
  cases x with
  | tmp t =>
    have := R.agree t fun p hp e => h p hp (by rw [e])
    simp only [Act.eval, Array.getD_eq_getD_getElem?, this]
  | _ => rfl
theorem Rel.exec {ps : List Pair} {B : Nat} {w0 : World} {listed : Array Bool} {a r : Act} {w : World} (R : Rel ps B w0 listed a r w) (o : Oper) (hs : ∀ cs b, o.op ≠ .select cs b) (h : ∀ t ∈ o.looksAt ops, ∀ p ∈ ps, t ≠ p.d) :
    execOp r.eval o = execOp a.eval o :=
  execOp_congr o hs fun x hx => R.eval x fun p hp e => by
    subst e
    exact h p.d (List.mem_append_left _ (List.mem_filterMap.2 ⟨.tmp p.d, by simpa using hx, rfl⟩)) p hp rfl
theorem Rel.wanted {ps : List Pair} {B : Nat} {w0 : World} {listed : Array Bool} {a r : Act} {w : World} (R : Rel ps B w0 listed a r w) (o : Oper) (h : ∀ t ∈ guardAt ops o, ∀ p ∈ ps, t ≠ p.d) :
    Region.wanted o (yielded ops r.tmps) = Region.wanted o (yielded ops a.tmps) := by
  unfold Region.wanted
  unfold guardAt at h
  cases hg : o.guard with
  | none => rfl
  | some gw =>
    obtain ⟨g, want⟩ := gw
    have hy : yielded ops r.tmps g = yielded ops a.tmps g := by
      unfold yielded
      cases ht : (ops[g]?).bind (·.dst) with
      | none => rfl
      | some t =>
        have := R.agree t (h t (by simp [hg, ht]))
        simp only [Option.bind_some, this]
    simp only [hy]
theorem Rel.put {ps : List Pair} {B : Nat} {w0 : World} {listed : Array Bool} {a r : Act} {w : World} (R : Rel ps B w0 listed a r w) (k : Nat) (dst : Option Tmp) (v : Value) (hk : ∀ p ∈ ps, k ≠ p.i) (hd : ∀ p ∈ ps, dst ≠ some p.d) :
    Rel ps B w0 (listed.setIfInBounds k true) (a.put dst v) (r.put dst v) w := by
  refine ⟨?_, ?_, fun t ht => ?_, fun p hp hl => ?_, R.below⟩
  · cases dst with
    | none => exact R.size
    | some t => simp [Act.put, R.size]
  · cases dst <;> exact R.defers
  · cases dst with
    | none => exact R.agree t ht
    | some t' =>
      simp only [Act.put, Array.getElem?_setIfInBounds, R.size]
      split
      · rfl
      · exact R.agree t ht
  · rw [getD_set_ne false (hk p hp)] at hl
    rw [Act.eval_put fun d e h => hd p hp (by rw [e]; injection h with h; rw [h])]
    exact R.hid p hp hl
theorem Rel.on {ps : List Pair} {B : Nat} {w0 : World} {listed : Array Bool} {a r : Act} {w w' : World} (hB : B ≤ w0.heap.size) (hkeep : ∀ p ∈ ps, ∀ v w w', p.Φ v w → Below w.heap.size w w' → p.Φ v w')
    (R : Rel ps B w0 listed a r w) (h : Below w.heap.size w w') : Rel ps B w0 listed a r w' :=
  ⟨R.size, R.defers, R.agree, fun p hp hl => hkeep p hp _ _ _ (R.hid p hp hl) h, R.below.trans (h.mono (Nat.le_trans hB R.below.size))⟩

/-- The class of the worlds later than W. -/
abbrev After (W : World) (w' : World) : Prop := ∃ x : Later W.heap.size W, w' = x.at

theorem mix_step {ps : List Pair} {B : Nat} {w0 : World} {F : Act} {fuel k : Nat} {o : Oper} {listed : Array Bool} {a : Act} (hdst : ∀ (k k' : Nat) (o o' : Oper) (t : Tmp), ops[k]? = some o → ops[k']? = some o' → o.dst = some t → o'.dst = some t → k = k')
    (ho : ops[k]? = some o) (hun : listed.getD k true = false)
    (h : ∀ W, Below B w0 W → qOp P (ops.map (virt ps)) (After W) k (wpAnyQ P md (ops.map (virt ps)) (After W) (· = F) fuel (listed.setIfInBounds k true)) a) (W : World) (hW : Below B w0 W) :
    ∃ v, YieldsIn P (ops.map (virt ps)) (After W) (virt ps o) v a ∧ (∀ W', Below B w0 W' → wpAnyQ P md (ops.map (virt ps)) (After W') (· = F) fuel (listed.setIfInBounds k true) (a.put o.dst v)) ∧
      ∀ t, o.dst = some t → (a.put o.dst v).tmps[t]? = F.tmps[t]? := by
  have ho' : (ops.map (virt ps))[k]? = some (virt ps o) := by rw [virt_get, ho]; rfl
  have hks : k < listed.size := by
    rcases Nat.lt_or_ge k listed.size with h' | h'
    · exact h'
    · simp [Array.getElem?_eq_none h'] at hun
  have key : ∀ W, Below B w0 W → ∃ v, YieldsIn P (ops.map (virt ps)) (After W) (virt ps o) v a ∧ wpAnyQ P md (ops.map (virt ps)) (After W) (· = F) fuel (listed.setIfInBounds k true) (a.put o.dst v) ∧
      ∀ t, o.dst = some t → (a.put o.dst v).tmps[t]? = F.tmps[t]? := by
    intro W hW
    obtain ⟨v, hy, hK⟩ := yieldsIn_of_qOp ho' (h W hW)
    rw [(virt_same ps o).1] at hK
    refine ⟨v, hy, hK, fun t ht => end_slot t fuel _ _ (fun k' o' hk' hl => ?_) hK⟩
    rw [virt_get] at hk'
    cases hk : ops[k']? with
    | none => rw [hk] at hk'; cases hk'
    | some o2 =>
      rw [hk] at hk'
      obtain rfl : virt ps o2 = o' := by simpa using hk'
      rw [(virt_same ps o2).1]
      intro e
      obtain rfl := hdst k k' o o2 t ho hk ht e
      simp [hks] at hl
  obtain ⟨v, hy, _, hv⟩ := key W hW
  refine ⟨v, hy, fun W' hW' => ?_, hv⟩
  obtain ⟨v', _, hK', hv'⟩ := key W' hW'
  have e : a.put o.dst v = a.put o.dst v' := by
    cases hd : o.dst with
    | none => rfl
    | some t =>
      have h1 := hv t hd
      have h2 := hv' t hd
      rw [hd] at h1 h2
      rcases Nat.lt_or_ge t a.tmps.size with hl | hl
      · simp [Act.put, hl] at h1 h2
        rw [← h2] at h1
        injection h1 with h1
        rw [h1]
      · simp [Act.put, Array.setIfInBounds_eq_of_size_le hl]
  rw [e]
  exact hK'

theorem mixB_spec {ps : List Pair} (h : mixB ops ps = true) :
    (∀ (k k' : Nat) (o o' : Oper) (t : Tmp), ops[k]? = some o → ops[k']? = some o' → o.dst = some t → o'.dst = some t → k = k') ∧
    (∀ p ∈ ps, ∃ oi oj : Oper, ops[p.i]? = some oi ∧ oi.dst = some p.d ∧ ops[p.j]? = some oj ∧ oj.dst = some p.e ∧ ∃ e ∈ oj.after, Region.binds .any e = true ∧ e.on = p.i) ∧
    (∀ (k : Nat) (o : Oper), ops[k]? = some o → (∀ t ∈ guardAt ops o, ∀ p ∈ ps, t ≠ p.d) ∧ ((∃ p ∈ ps, k = p.i ∨ k = p.j) ∨ ∀ t ∈ o.looksAt ops, ∀ p ∈ ps, t ≠ p.d)) := by
  unfold mixB at h
  simp only [Bool.and_eq_true] at h
  obtain ⟨⟨h1, h2⟩, h3⟩ := h
  refine ⟨fun k k' o o' t hk hk' ht ht' => ?_, fun p hp => ?_, fun k o hk => ?_⟩
  · have a1 : k < ops.size := (Array.getElem?_eq_some_iff.1 hk).1
    have a2 : k' < ops.size := (Array.getElem?_eq_some_iff.1 hk').1
    have h4 := List.all_eq_true.1 (List.all_eq_true.1 h1 k (List.mem_range.2 a1)) k' (List.mem_range.2 a2)
    rw [hk, hk'] at h4
    simpa [ht, ht'] using h4
  · have h4 := List.all_eq_true.1 h2 p hp
    simp only [Bool.and_eq_true, beq_iff_eq] at h4
    obtain ⟨⟨h5, h6⟩, h7⟩ := h4
    cases hi : ops[p.i]? with
    | none => rw [hi] at h5; cases h5
    | some oi =>
      cases hj : ops[p.j]? with
      | none => rw [hj] at h6; cases h6
      | some oj =>
        rw [hi] at h5
        rw [hj] at h6 h7
        simp only [Option.map_some, Option.getD_some] at h7
        obtain ⟨e, he, hb⟩ := Array.any_eq_true'.1 h7
        simp only [Bool.and_eq_true, beq_iff_eq] at hb
        exact ⟨oi, oj, rfl, h5, rfl, h6, e, he, hb.1, hb.2⟩
  · have a1 : k < ops.size := (Array.getElem?_eq_some_iff.1 hk).1
    have h4 := List.all_eq_true.1 h3 k (List.mem_range.2 a1)
    rw [hk] at h4
    simp only [Option.map_some, Option.getD_some, Bool.and_eq_true, Bool.or_eq_true] at h4
    obtain ⟨h5, h6⟩ := h4
    refine ⟨fun t ht p hp => ?_, ?_⟩
    · have := List.all_eq_true.1 (List.all_eq_true.1 h5 t ht) p hp
      simpa using this
    · rcases h6 with h6 | h6
      · obtain ⟨p, hp, hq⟩ := List.any_eq_true.1 h6
        exact .inl ⟨p, hp, by simpa using hq⟩
      · refine .inr fun t ht p hp => ?_
        have := List.all_eq_true.1 (List.all_eq_true.1 h6 t ht) p hp
        simpa using this

/-- What is asked of the pairs, besides what can be reckoned. -/
structure Fit (P : Program) (ops : Array Oper) (ps : List Pair) (B : Nat) (w0 : World) : Prop where
  prod : ∀ p ∈ ps, ∀ o : Oper, o.dst = some p.d → virt ps o = { o with op := .move p.arg }
  read : ∀ p ∈ ps, ∀ o : Oper, o.dst = some p.e → virt ps o = { o with op := .move (.const p.s) }
  one : ∀ p ∈ ps, ∀ q ∈ ps, p.i = q.i → p = q
  arg : ∀ p ∈ ps, ∀ q ∈ ps, p.arg ≠ .tmp q.d
  apart : ∀ p ∈ ps, ∀ q ∈ ps, p.j ≠ q.i
  ne : ∀ p ∈ ps, p.y ≠ undef ∧ p.s ≠ undef
  run : ∀ p ∈ ps, ∀ o : Oper, ops[p.i]? = some o → ∀ (a : Act) (w : World), (execOp a.eval o).run P w = .ok (.enter p.f #[a.eval p.arg]) w
  call : ∀ p ∈ ps, ∀ x : Later B w0, Calls P p.f #[p.y] x.at fun e w' => ∃ v, e = .returned v ∧ p.Φ v w' ∧ Below x.at.heap.size x.at w'
  reads : ∀ p ∈ ps, ∀ o : Oper, ops[p.j]? = some o → ∀ (a : Act) (w : World), p.Φ (a.eval (.tmp p.d)) w → (execOp a.eval o).run P w = .ok (.value p.s) w
  keep : ∀ p ∈ ps, ∀ v w w', p.Φ v w → Below w.heap.size w w' → p.Φ v w'

theorem mix_any {ps : List Pair} {B : Nat} {w0 : World} {F : Act} {Q : Exit → Act → World → Prop} (hm : mixB ops ps = true) (hsel : Region.noSelect ops = true) (hB : B ≤ w0.heap.size) (fit : Fit P ops ps B w0)
    (hF : ∀ p ∈ ps, F.tmps[p.d]? = some p.y ∧ F.tmps[p.e]? = some p.s) (hQ : ∀ listed r w, Rel ps B w0 listed F r w → Q .normal r w) :
    ∀ (fuel : Nat) (listed : Array Bool) (a r : Act) (w : World), (∀ W, Below B w0 W → wpAnyQ P .any (ops.map (virt ps)) (After W) (· = F) fuel listed a) → Rel ps B w0 listed a r w → wpAny P .any ops Q fuel listed r w := by
  obtain ⟨m1, m2, m3⟩ := mixB_spec hm
  intro fuel
  induction fuel with
  | zero =>
    intro listed a r w h R
    have h0 := h w R.below
    obtain rfl : a = F := h0.2
    refine ⟨?_, hQ _ _ _ R⟩
    apply List.eq_nil_iff_forall_not_mem.2
    intro k hk
    have := (virt_ready ps listed k).2 hk
    rw [h0.1] at this
    cases this
  | succ fuel ih =>
    intro listed a r w h R
    have h0 := h w R.below
    refine ⟨fun hr => ?_, fun k hk => ?_⟩
    · have hr' : Region.ready .any (ops.map (virt ps)) listed = [] := by
        apply List.eq_nil_iff_forall_not_mem.2
        intro k hk
        have := (virt_ready ps listed k).1 hk
        rw [hr] at this
        cases this
      obtain rfl : a = F := h0.1 hr'
      exact hQ _ _ _ R
    · obtain ⟨hun, o, ho, hall⟩ := mem_ready.1 hk
      obtain ⟨v, hy, hK, hv⟩ := mix_step m1 ho hun (fun W hW => (h W hW).2 k ((virt_ready ps listed k).2 hk)) w R.below
      obtain ⟨g1, g2⟩ := m3 k o ho
      have hwant := R.wanted (ops := ops) o g1
      have hin : After w w := Later.mk (Below.refl _ _)
      unfold wpOp
      simp only [ho]
      rw [hwant]
      unfold YieldsIn at hy
      rw [virt_wanted] at hy
      by_cases hs : ∃ p ∈ ps, k = p.i ∨ k = p.j
      · obtain ⟨p, hp, hs⟩ := hs
        obtain ⟨oi, oj, hoi, hdi, hoj, hdj, e, he, hb, hon⟩ := m2 p hp
        obtain ⟨f1, f2⟩ := hF p hp
        obtain ⟨n1, n2⟩ := fit.ne p hp
        rcases hs with rfl | rfl
        · -- the call
          obtain rfl : oi = o := Option.some.inj (hoi.symm.trans ho)
          rw [hdi] at hv hK
          have hvd := hv p.d rfl
          rw [f1] at hvd
          have hlt : p.d < a.tmps.size := by
            rcases Nat.lt_or_ge p.d a.tmps.size with hl | hl
            · exact hl
            · simp [Act.put, hl] at hvd
          have hvy : v = p.y := by simpa [Act.put, hlt] using hvd
          rcases hy with ⟨hw, hyy⟩ | ⟨hw, hyy⟩
          · rw [if_pos hw]
            refine .inl ?_
            have h1 := hyy w hin
            unfold Oper.quietAt at h1
            rw [fit.prod p hp oi hdi, BigFrame.run_move p.arg rfl] at h1
            have harg : a.eval p.arg = p.y := by rw [← hvy]; exact h1.2
            have hrarg : r.eval p.arg = p.y := by rw [R.eval p.arg (fun q hq => fit.arg p hp q hq)]; exact harg
            unfold Oper.wp
            rw [fit.run p hp oi ho r w, hrarg, Oper.upon_enter]
            refine (fit.call p hp ⟨w, R.below⟩).mono ?_
            rintro e' w' ⟨v', rfl, hΦ, hbel⟩
            show wpAny P .any ops Q fuel (listed.setIfInBounds p.i true) (r.put oi.dst v') w'
            rw [hdi]
            refine ih _ _ _ _ hK ?_
            have R' := R.on hB fit.keep hbel
            refine ⟨by simp [Act.put, R.size], by simp [Act.put, R.defers], fun t ht => ?_, fun q hq hl => ?_, R'.below⟩
            · have hne : p.d ≠ t := fun e => ht p hp e.symm
              simp only [Act.put, Array.getElem?_setIfInBounds_ne hne]
              exact R.agree t ht
            · by_cases hqi : p.i = q.i
              · obtain rfl := fit.one p hp q hq hqi
                have : (r.put (some p.d) v').eval (.tmp p.d) = v' := by
                  have hlr : p.d < r.tmps.size := by rw [R.size]; exact hlt
                  simp [Act.put, Act.eval, hlr]
                rw [this]
                exact hΦ
              · rw [getD_set_ne false hqi] at hl
                have hne : p.d ≠ q.d := by
                  intro e
                  obtain ⟨oq, _, hoq, hdq, _⟩ := m2 q hq
                  exact hqi (m1 p.i q.i oi oq p.d ho hoq hdi (by rw [e]; exact hdq))
                rw [Act.eval_put fun d e h => hne (by injection e with e; injection h with h; rw [e, h])]
                exact R'.hid q hq hl
          · exact absurd (hvy.symm.trans hyy) n1
        · -- the reader
          obtain rfl : oj = o := Option.some.inj (hoj.symm.trans ho)
          rw [hdj] at hv
          have hvd := hv p.e rfl
          rw [f2] at hvd
          have hlt : p.e < a.tmps.size := by
            rcases Nat.lt_or_ge p.e a.tmps.size with hl | hl
            · exact hl
            · simp [Act.put, hl] at hvd
          have hvy : v = p.s := by simpa [Act.put, hlt] using hvd
          rcases hy with ⟨hw, hyy⟩ | ⟨hw, hyy⟩
          · rw [if_pos hw]
            refine .inl ?_
            have hl := hall e he hb
            rw [hon] at hl
            unfold Oper.wp
            rw [fit.reads p hp oj ho r w (R.hid p hp hl), Oper.upon_value, ← hvy]
            refine ih _ _ _ _ hK (R.put _ _ _ (fun q hq e => ?_) (fun q hq e => ?_))
            · exact fit.apart p hp q hq e
            · obtain ⟨oq, _, hoq, hdq, _⟩ := m2 q hq
              exact fit.apart p hp q hq (m1 p.j q.i oj oq q.d ho hoq e hdq)
          · exact absurd (hvy.symm.trans hyy) n2
      · have hlook := g2.resolve_left hs
        have hnorm : virt ps o = o := virt_norm ps o fun p hp => by
          obtain ⟨oi, oj, hoi, hdi, hoj, hdj, _⟩ := m2 p hp
          refine ⟨fun e => hs ⟨p, hp, .inl (m1 k p.i o oi p.d ho hoi e hdi)⟩, fun e => hs ⟨p, hp, .inr (m1 k p.j o oj p.e ho hoj e hdj)⟩⟩
        have hki : ∀ p ∈ ps, k ≠ p.i := fun p hp e => hs ⟨p, hp, .inl e⟩
        have hkd : ∀ p ∈ ps, o.dst ≠ some p.d := fun p hp e => by
          obtain ⟨oi, oj, hoi, hdi, hoj, hdj, _⟩ := m2 p hp
          exact hs ⟨p, hp, .inl (m1 k p.i o oi p.d ho hoi e hdi)⟩
        rw [hnorm] at hy
        rcases hy with ⟨hw, hyy⟩ | ⟨hw, rfl⟩
        · rw [if_pos hw]
          refine .inl ?_
          have h1 := hyy w hin
          unfold Oper.quietAt at h1
          unfold Oper.wp
          rw [R.exec (ops := ops) o (fun cs b => Region.noSelect_spec hsel k o cs b ho) hlook]
          generalize (execOp a.eval o).run P w = res at *
          cases res with
          | ok n w' =>
            cases n <;> simp only [Oper.quietUpon] at h1 <;> simp only [Oper.upon]
            case value u' =>
              obtain ⟨e1, e2⟩ := h1
              rw [e1, e2]
              exact ih _ _ _ _ hK (R.put k o.dst v hki hkd)
            case skip =>
              obtain ⟨e1, e2⟩ := h1
              rw [e1, ← e2]
              exact ih _ _ _ _ hK (R.put k o.dst v hki hkd)
            case enter f args =>
              obtain ⟨e1, hc⟩ := h1
              rw [e1]
              refine hc.mono ?_
              rintro e w'' ⟨rfl, x, rfl⟩
              exact ih _ _ _ _ hK ((R.put k o.dst v hki hkd).on hB fit.keep x.below)
          | halt x w' => simp only [Oper.quietUpon] at h1
        · rw [if_neg (by rw [hw]; exact Bool.false_ne_true)]
          exact ih _ _ _ _ hK (R.put k o.dst undef hki hkd)

theorem Rel.one {p : Pair} {B : Nat} {w0 : World} {listed : Array Bool} {a r : Act} {w : World} (R : Rel [p] B w0 listed a r w) : ∃ v, r = a.put (some p.d) v := by
  refine ⟨r.eval (.tmp p.d), ?_⟩
  obtain ⟨ta, da⟩ := a
  obtain ⟨tr, dr⟩ := r
  have hs : tr.size = ta.size := R.size
  have hd : dr = da := R.defers
  subst hd
  simp only [Act.put, Act.eval, Act.mk.injEq, and_true]
  apply Array.ext_getElem?
  intro t
  rw [Array.getElem?_setIfInBounds]
  by_cases e : p.d = t
  · subst e
    rcases Nat.lt_or_ge p.d ta.size with hl | hl
    · have hl' : p.d < tr.size := by rw [hs]; exact hl
      simp [hl, hl']
    · simp [hs, hl]
  · rw [if_neg e]
    exact R.agree t (by simpa using fun h => e h.symm)
theorem Rel.two {p q : Pair} {B : Nat} {w0 : World} {listed : Array Bool} {a r : Act} {w : World} (R : Rel [p, q] B w0 listed a r w) : ∃ v v', r = (a.put (some p.d) v).put (some q.d) v' := by
  refine ⟨r.eval (.tmp p.d), r.eval (.tmp q.d), ?_⟩
  obtain ⟨ta, da⟩ := a
  obtain ⟨tr, dr⟩ := r
  have hs : tr.size = ta.size := R.size
  have hd : dr = da := R.defers
  subst hd
  simp only [Act.put, Act.eval, Act.mk.injEq, and_true]
  apply Array.ext_getElem?
  intro t
  rw [Array.getElem?_setIfInBounds, Array.getElem?_setIfInBounds]
  by_cases e : q.d = t
  · subst e
    rcases Nat.lt_or_ge q.d ta.size with hl | hl
    · have hl' : q.d < tr.size := by rw [hs]; exact hl
      simp [hl, hl']
    · simp [hs, hl]
  · rw [if_neg e]
    by_cases e2 : p.d = t
    · subst e2
      rcases Nat.lt_or_ge p.d ta.size with hl | hl
      · have hl' : p.d < tr.size := by rw [hs]; exact hl
        simp [hl, hl']
      · simp [hs, hl]
    · rw [if_neg e2]
      exact R.agree t (by simpa using ⟨fun h => e2 h.symm, fun h => e h.symm⟩)

/-- One walk in the order of the text serves every order. -/
theorem region_mix {id : Nat} {Q : Exit → Act → World → Prop} {a : Act} {w : World} {l : List Oper} (ps : List Pair) (B : Nat) (hm : P.follows .mixedOrders = true) (hx : mixB l.toArray ps = true) (hsel : Region.noSelect l.toArray = true)
    (hlex : Region.lexB .any (l.map (virt ps)).toArray = true) (hB : B ≤ w.heap.size) (fit : Fit P l.toArray ps B w)
    (h : ∃ F : Act, (∀ W, Below B w W → wpQuiet P (l.map (virt ps)).toArray (fun w' => ∃ x : Later W.heap.size W, w' = x.at) (fun a' => a' = F) (l.map (virt ps)) a) ∧ (∀ p ∈ ps, F.tmps[p.d]? = some p.y ∧ F.tmps[p.e]? = some p.s) ∧
      ∀ listed r w', Rel ps B w listed F r w' → Q .normal r w') : (Code.region id l.toArray true).wp P Q a w := by
  obtain ⟨F, hwalk, hF, hQ⟩ := h
  simp only [Region.lexB, Bool.and_eq_true] at hlex
  refine wp_region_any hm (mix_any hx hsel hB fit hF hQ _ _ a a _ (fun W hW => ?_) ⟨rfl, rfl, fun _ _ => rfl, fun p hp hl => ?_, (Below.refl _ _).drew⟩)
  · have := wpAnyQ_lex (P := P) (C := After W) (Q := fun a' => a' = F) (md := .any) hlex.1 (l.map (virt ps)) 0 (Array.replicate (l.map (virt ps)).toArray.size false) a (by simp) (by simpa using hlex.2) (hwalk W hW)
    simpa using this
  · rw [getD_replicate_false] at hl
    cases hl

end
end Go.Proofs.YtfebhfghjdedhaaDoor
