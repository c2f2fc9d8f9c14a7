/-
  RibFull: for every input the call returns true, and each argument reads afterwards as it read before. No condition.
-/
import Derived.Test.YtnepmlhbheaonaaF1
import Derived.Test.YtnepmlhbheaonaaQf
namespace Go.Proofs.Ytnepmlhbheaonaa
open Go.RowKit Go.Maps
set_option maxRecDepth 100000

theorem pof_128' (a : Ad) : pof a 128 = pof a (wid a.v6) := by
  have h : clamp a.v6 128 = clamp a.v6 (wid a.v6) := by
    unfold clamp wid
    cases a.v6 <;> decide
  unfold pof
  rw [h]
/-- What governs all digits of an address is its longest. -/
theorem gov_full {L : List Pr} (h : Srt L) (a : Ad) : govL L (pof a 128) = longL L a := by
  unfold govL longL
  rw [pof_128']
  have e : L.filter (fun x => pcov x.p (pof a (wid a.v6))) = L.filter (fun x => pcon x.p a) := List.filter_congr fun x hx => cov_full (h.1 x hx) a
  rw [e]
/-- Where none lies inside what covers a prefix is what contains its first address. -/
theorem gov_first {L : List Pr} {p : Pf} (hp : psane p = true) (hi : (L.any fun x => pins p x.p) = false) : govL L p = longL L p.a := by
  unfold govL longL
  have e : L.filter (fun x => pcov x.p p) = L.filter (fun x => pcon x.p p.a) := List.filter_congr fun x hx => by
    have hin : pins p x.p = false := by
      cases hc : pins p x.p
      · rfl
      · have : (L.any fun x => pins p x.p) = true := List.any_eq_true.2 ⟨x, hx, hc⟩
        rw [hi] at this
        cases this
    rw [Bool.eq_iff_iff]
    constructor
    · exact pcov_con
    · intro hc
      obtain ⟨c1, c2, c3⟩ := (pcon_iff _ _).1 hc
      rcases Int.lt_or_le p.n x.p.n with e | e
      · exfalso
        have hcv : pcov p x.p = true := (pcov_iff _ _).2 ⟨hp, c1, by omega, c2, fun j hj => (c3 j (by omega)).symm⟩
        rw [ins_eq hcv] at hin
        have : pfEq p x.p = true := by cases hq : pfEq p x.p <;> simp_all
        have := (pfEq_iff _ _).1 this
        rw [← this] at e
        omega
      · exact (pcov_iff _ _).2 ⟨c1, hp, e, c2.symm, fun j hj => c3 j hj⟩
  rw [e]
theorem con_lt' {x y : Pf} {a : Ad} (hx : pcon x a = true) (hy : pcon y a = true) (h : pcmp x y < 0) : x.n < y.n := by
  obtain ⟨x1, x2, x3⟩ := (pcon_iff x a).1 hx
  obtain ⟨y1, y2, y3⟩ := (pcon_iff y a).1 hy
  rcases Int.lt_or_le x.n y.n with e | e
  · exact e
  · have hc : pcov y x = true := (pcov_iff y x).2 ⟨y1, x1, e, by rw [← y2, x2], fun j hj => by rw [← x3 j (by omega), y3 j hj]⟩
    have h1 := cov_cmp hc
    have h2 := pcmp_anti x y
    omega
/-- None that contains an address is longer than the longest; which is one of them. -/
theorem long_most {L : List Pr} (h : Srt L) {a : Ad} {x : Pr} (hx : x ∈ L) (hc : pcon x.p a = true) : ∃ y, longL L a = some y ∧ x.p.n ≤ y.p.n := by
  unfold longL
  have hm : x ∈ L.filter fun x => pcon x.p a := List.mem_filter.2 ⟨hx, hc⟩
  have hs := filter_srt h (fun x => pcon x.p a)
  obtain ⟨i, hi, rfl⟩ := List.getElem_of_mem hm
  generalize hF : (L.filter fun x => pcon x.p a) = F at hi hs hm ⊢
  have hne : F ≠ [] := fun e => by rw [e] at hi; cases hi
  refine ⟨F.getLast hne, List.getLast?_eq_some_getLast hne, ?_⟩
  rw [List.getLast_eq_getElem]
  rcases Nat.lt_or_ge i (F.length - 1) with e | e
  · have h1 := List.pairwise_iff_getElem.1 hs.2 i (F.length - 1) hi (by omega) e
    have k2 : pcon F[F.length - 1].p a = true := by
      have : F[F.length - 1] ∈ (L.filter fun x => pcon x.p a) := by rw [hF]; exact List.getElem_mem _
      exact (List.mem_filter.1 this).2
    exact Int.le_of_lt (con_lt' hc k2 h1)
  · have : i = F.length - 1 := by omega
    subst this
    exact Int.le_refl _
theorem long_mem {L : List Pr} {a : Ad} {y : Pr} (h : longL L a = some y) : y ∈ L ∧ pcon y.p a = true := by
  unfold longL at h
  have := List.mem_of_getLast? h
  exact List.mem_filter.1 this
/-- Whether one of the first k contains an address and is y. -/
def fndK (L : List Pr) (a : Ad) (y : Pr) (k : Nat) : Bool := (L.take k).any fun x => pcon x.p a && decide (x = y)
theorem fndK_succ (L : List Pr) (a : Ad) (y : Pr) {k : Nat} (h : k < L.length) : fndK L a y (k + 1) = (fndK L a y k || (pcon L[k].p a && decide (L[k] = y))) := by
  unfold fndK
  rw [List.take_succ_eq_append_getElem h, List.any_append]
  simp
theorem fnd_all {L : List Pr} {a : Ad} : fndK L a ((longL L a).getD nilPr) L.length = (longL L a).isSome := by
  unfold fndK
  rw [List.take_length]
  cases hl : longL L a with
  | none =>
    simp only [Option.isSome_none]
    rw [List.any_eq_false]
    intro x hx hc
    simp only [Bool.and_eq_true] at hc
    unfold longL at hl
    rw [List.getLast?_eq_none_iff] at hl
    have : x ∈ L.filter fun x => pcon x.p a := List.mem_filter.2 ⟨hx, hc.1⟩
    rw [hl] at this
    cases this
  | some y =>
    obtain ⟨h1, h2⟩ := long_mem hl
    simp only [Option.isSome_some, Option.getD_some]
    exact List.any_eq_true.2 ⟨y, h1, by simp [h2]⟩

def prB (h l : Int) (v : Bool) (n o : Int) (h' l' : Int) (v' : Bool) (n' o' : Int) : Bool := pfB h l v n h' l' v' n' && o == o'
@[simp] theorem prB_self (h l : Int) (v : Bool) (n o : Int) : prB h l v n o h l v n o = true := by simp [prB]
@[simp] theorem eq_pr (h l h' l' : Int) (v v' : Bool) (n n' o o' : Int) (w : World) :
    (Op.equalIn 10000 37 (.agg #[.int .u64 h, .int .u64 l, .bool v, .int .i64 n, .int .i64 o]) (.agg #[.int .u64 h', .int .u64 l', .bool v', .int .i64 n', .int .i64 o'])).run Try.prog w = .ok (prB h l v n o h' l' v' n' o') w := by
  rw [show (10000 : Nat) = 9999 + 1 from rfl, run_equalIn_struct w 9999 _ _ _ (by kernel_rfl) Try.stoodInHeld37]
  simp [go_sem, prB, pfB, adB]
  by_cases h1 : h = h' <;> by_cases h2 : l = l' <;> by_cases h3 : v = v' <;> by_cases h4 : n = n' <;> by_cases h5 : o = o' <;> simp [h1, h2, h3, h4, h5]
theorem prB_iff (x y : Pr) : prB (u x.p.a.hi) (u x.p.a.lo) x.p.a.v6 x.p.n x.v (u y.p.a.hi) (u y.p.a.lo) y.p.a.v6 y.p.n y.v = decide (x = y) := by
  obtain ⟨p, n⟩ := x
  obtain ⟨q, m⟩ := y
  have h := pfEq_iff p q
  unfold pfEq at h
  rw [Bool.eq_iff_iff, decide_eq_true_iff]
  unfold prB
  rw [Bool.and_eq_true, beq_iff_eq, h]
  simp

end Go.Proofs.Ytnepmlhbheaonaa

namespace Go.Proofs.Ytnepmlhbheaonaa
open Go.RowKit Go.Maps
set_option maxRecDepth 100000

theorem unl_snoc (l : List Int) (x : Int) : unl (l ++ [x]) = unl l + if x ∈ l then 0 else 1 := by
  rw [unl_perm (List.perm_append_comm : (l ++ [x]).Perm ([x] ++ l))]
  rfl
/-- How many unlike hops the first k have. -/
def unlK (T : List Pr) (k : Nat) : Nat := unl (hopsL (T.take k))
theorem unlK_succ (T : List Pr) {k : Nat} (h : k < T.length) : unlK T (k + 1) = unlK T k + if T[k].v ∈ hopsL (T.take k) then 0 else 1 := by
  unfold unlK hopsL
  rw [List.take_succ_eq_append_getElem h, List.map_append]
  exact unl_snoc _ _
theorem unlK_le (T : List Pr) (k : Nat) : unlK T k ≤ T.length := by
  unfold unlK
  have h1 := unl_le (hopsL (T.take k))
  unfold hopsL at h1 ⊢
  rw [List.length_map, List.length_take] at h1
  omega
/-- Is none of the first k of that hop? -/
def fstK (T : List Pr) (v : Int) (k : Nat) : Bool := (T.take k).all fun x => decide (x.v ≠ v)
theorem fstK_succ (T : List Pr) (v : Int) {k : Nat} (h : k < T.length) : fstK T v (k + 1) = (fstK T v k && decide (T[k].v ≠ v)) := by
  unfold fstK
  rw [List.take_succ_eq_append_getElem h, List.all_append]
  simp
theorem fstK_mem (T : List Pr) (v : Int) (k : Nat) : fstK T v k = !decide (v ∈ hopsL (T.take k)) := by
  unfold fstK
  rw [Bool.eq_iff_iff]
  simp only [List.all_eq_true, decide_eq_true_eq, Bool.not_eq_true', decide_eq_false_iff_not]
  constructor
  · intro h hm
    obtain ⟨x, hx, e⟩ := mem_hops.1 hm
    exact h x hx e
  · intro h x hx e
    exact h (mem_hops.2 ⟨x, hx, e⟩)
/-- What there would be then, of the first k. -/
def thenK (L : List Pr) (x : Pr) (k : Nat) : List Pr := x :: (L.take k).filter fun y => decide (y.p ≠ x.p)
theorem thenK_succ (L : List Pr) (x : Pr) {k : Nat} (h : k < L.length) : thenK L x (k + 1) = thenK L x k ++ if L[k].p = x.p then [] else [L[k]] := by
  unfold thenK
  rw [List.take_succ_eq_append_getElem h, List.filter_append, List.cons_append]
  congr 2
  by_cases e : L[k].p = x.p
  · simp [e]
  · simp [e]
theorem thenK_len (L : List Pr) (x : Pr) (k : Nat) : (thenK L x k).length ≤ L.length + 1 := by
  unfold thenK
  have h1 := List.length_filter_le (fun y : Pr => decide (y.p ≠ x.p)) (L.take k)
  rw [List.length_take] at h1
  simp only [List.length_cons]
  omega
theorem then_perm {L : List Pr} {x : Pr} (h : Srt L) (hp : psane x.p = true) : (putL x.p x.v L).Perm (thenK L x L.length) := by
  unfold thenK
  rw [List.take_length]
  exact put_perm h hp
theorem then_len {L : List Pr} {x : Pr} (h : Srt L) (hp : psane x.p = true) : (putL x.p x.v L).length = (thenK L x L.length).length := (then_perm h hp).length_eq
theorem then_unl {L : List Pr} {x : Pr} (h : Srt L) (hp : psane x.p = true) : unl (hopsL (putL x.p x.v L)) = unlK (thenK L x L.length) (thenK L x L.length).length := by
  unfold unlK
  rw [List.take_length]
  exact unl_perm ((then_perm h hp).map _)
/-- What was put governs itself. -/
theorem gov_put {L : List Pr} {x : Pr} (h : Srt L) (hp : psane x.p = true) : govL (putL x.p x.v L) x.p = some x := by
  unfold govL
  have hs := put_srt (v := x.v) h hp
  have hm : x ∈ (putL x.p x.v L).filter fun y => pcov y.p x.p := List.mem_filter.2 ⟨(mem_put h hp x).2 (.inl rfl), cov_refl _ hp⟩
  have hsf := filter_srt hs (fun y => pcov y.p x.p)
  obtain ⟨i, hi, hx⟩ := List.getElem_of_mem hm
  generalize hF : ((putL x.p x.v L).filter fun y => pcov y.p x.p) = F at hi hx hsf
  have hne : F ≠ [] := fun e => by rw [e] at hi; cases hi
  rw [List.getLast?_eq_some_getLast hne, List.getLast_eq_getElem]
  rcases Nat.lt_or_ge i (F.length - 1) with e | e
  · exfalso
    have h1 := List.pairwise_iff_getElem.1 hsf.2 i (F.length - 1) hi (by omega) e
    have h2 : F[F.length - 1] ∈ ((putL x.p x.v L).filter fun y => pcov y.p x.p) := by rw [hF]; exact List.getElem_mem _
    have h3 := cov_cmp (List.mem_filter.1 h2).2
    rw [hx] at h1
    have h4 := pcmp_anti x.p F[F.length - 1].p
    omega
  · have : F.length - 1 = i := by omega
    simp only [this, hx]
def goodB (x : Pr) : Bool := psane x.p && (decide (0 ≤ x.v) && decide (x.v ≤ 65535))
set_option maxHeartbeats 1000000 in
theorem goodr_any (x : Pr) (w : World) : Calls Try.prog 31 #[.agg #[.int .u64 (u x.p.a.hi), .int .u64 (u x.p.a.lo), .bool x.p.a.v6, .int .i64 x.p.n, .int .i64 x.v]] w fun e w' => e = .returned (.bool (goodB x)) ∧ Below w.heap.size w w' := by
  have hg : goodB x = (psane x.p && (decide (0 ≤ x.v) && decide (x.v ≤ 65535))) := rfl
  have HG := Lib.hid hg
  clear hg
  go_enter Try.func31, Try.ntmps31
  go_wp2_with fail
  refine (rpsane_any x.p _).mono ?_
  rintro e w1 ⟨rfl, hw1⟩
  have b1 : Below w.heap.size w w1 := below_of (by go_grown) hw1
  have c4 : w1.cell? ⟨w.heap.size, 4, none⟩ = some (.int .i64 x.v) := (hw1.cell (by go_size)).trans (by go_simp <;> rfl)
  clear hw1
  cases hp : psane x.p
  · rw [hp] at HG
    go_wp2
    go_ret
    exact ⟨by rw [HG.out]; rfl, b1⟩
  · rw [hp] at HG
    by_cases h1 : 0 ≤ x.v
    · have t1 : decide (0 ≤ x.v) = true := decide_eq_true h1
      rw [t1] at HG
      go_wp2
      go_ret
      exact ⟨ret_bool HG.out.symm, b1⟩
    · have t1 : decide (0 ≤ x.v) = false := decide_eq_false h1
      rw [t1] at HG
      go_wp2
      go_ret
      exact ⟨by rw [HG.out]; rfl, b1⟩

end Go.Proofs.Ytnepmlhbheaonaa

namespace Go.Proofs.Ytnepmlhbheaonaa
open Go.RowKit Go.Maps
set_option maxRecDepth 100000

theorem own_lit5 {w : World} {base g : Nat} {x : Pr} (hb : base ≤ g) (hg : w.heap[g]? = some (.cells (pr5 x).toArray 37 (0, 0))) : w.ownsRow base 37 5 (.slice (some ⟨g, 0, none⟩) 1 1) 1 (prv [x]) := by
  refine ⟨rfl, .inr ⟨g, 1, (pr5 x).toArray, rfl, hb, hg, Nat.le_refl _, by simp [maxLen], rfl, ?_⟩⟩
  rw [prv_one]
  rfl

set_option maxHeartbeats 8000000 in
theorem ribfull_law (n h : Int) (A : Option Addr) (cap : Nat) (ls : List Ac) (x : Pr) (w : World) (hr : RdA w A ls) :
    Calls Try.prog 8 #[.int .i64 n, .int .i64 h, .slice A ls.length cap, .agg #[.int .u64 (u x.p.a.hi), .int .u64 (u x.p.a.lo), .bool x.p.a.v6, .int .i64 x.p.n, .int .i64 x.v]] w fun e w' => e = .returned (.bool true) ∧ Below w.heap.size w w' := by
  have HRD := Lib.hid hr
  clear hr
  by_cases hlen : 60 < ls.length
  · have t0 : decide ((60 : Int) < (ls.length : Int)) = true := by simp; omega
    go_enter Try.func8, Try.ntmps8
    go_wp2_with fail
    refine (awake6_any _).mono ?_
    rintro e w1 ⟨rfl, hw1⟩
    have b1 : Below w.heap.size w w1 := below_of (by go_grown) hw1
    go_wp2
    go_ret
    exact ⟨rfl, b1⟩
  · have t0 : decide ((60 : Int) < (ls.length : Int)) = false := by simp; omega
    obtain ⟨B1, hB1⟩ : ∃ B, bits .and .i64 n 31 = B := ⟨_, rfl⟩
    obtain ⟨B2, hB2⟩ : ∃ B, bits .and .i64 h 7 = B := ⟨_, rfl⟩
    have k1 : 0 ≤ B1 ∧ B1 ≤ 31 := by rw [← hB1, i64_and5]; omega
    have k2 : 0 ≤ B2 ∧ B2 ≤ 7 := by rw [← hB2, i64_and3]; omega
    have kc1 : clampN B1 = B1 := by unfold clampN; omega
    have kc2 : clampH B2 = B2 := by unfold clampH; omega
    have cN := fun W => rib_new B1 B2 W
    unfold RNewPost at cN
    rw [kc1, kc2] at cN
    have CN := Lib.hid cN
    clear cN kc1 kc2
    go_enter Try.func8, Try.ntmps8
    go_wp2_with fail
    refine (awake6_any _).mono ?_
    rintro e w1 ⟨rfl, hw1⟩
    have b1 : Below w.heap.size w w1 := below_of (by go_grown) hw1
    have hQ1 : QBox w1 w.heap.size x := QBox.keep (by refine ⟨?_, ?_, ?_, ?_, ?_, ?_⟩ <;> first | (go_simp; done) | (go_simp <;> rfl) | go_size) hw1
    have HQ1 := Lib.hid hQ1
    obtain ⟨x0, x1, x2, x3, x4, xz⟩ := id hQ1
    clear hw1 hQ1
    go_wp2_with fail
    refine (goodr_any x _).mono ?_
    rintro e w2 ⟨rfl, hw2⟩
    have b2 := b1.trans (hw2.mono b1.size)
    have HQ2 := Lib.hid (HQ1.out.keep hw2)
    clear hw2 HQ1 x0 x1 x2 x3 x4 b1
    cases hgd : goodB x
    · have tg : (!goodB x) = true := by simp [hgd]
      go_wp2
      go_ret
      exact ⟨rfl, b2⟩
    · have tg : (!goodB x) = false := by simp [hgd]
      have hgg := hgd
      unfold goodB at hgg
      simp only [Bool.and_eq_true, decide_eq_true_eq] at hgg
      have HGG := Lib.hid hgg
      clear hgd hgg
      go_wp2_with fail
      refine (CN.out _).mono ?_
      rintro e w3 ⟨r, S3, rfl, hT3, hb3, hS3⟩
      have HQ3 := Lib.hid (HQ2.out.keep hb3)
      have b3 : Below w.heap.size w w3 := b2.trans (hb3.mono b2.size)
      have z2 : w.heap.size < w2.heap.size := HQ2.out.2.2.2.2.2
      have n3 : ∀ b, S3 b → w.heap.size + 1 ≤ b := fun b hb => by have := hS3 b hb; omega
      have z3 : w.heap.size + 1 ≤ w3.heap.size := by have := hb3.size; omega
      have HR3 := Lib.hid hT3
      have HN3 := Lib.hid n3
      clear hT3 n3 hS3 hb3 HQ2 b2 CN xz
      go_wp2_with fail
      go_loopw [11] (fun i wr => RPlayRel w (w.heap.size + 1) r B1 B2 ls (fun W => QBox W w.heap.size x) i wr) (fun i _ => ls.length - (intOf i).toNat)
      case atStart => exact ⟨0, S3, Nat.zero_le _, rfl, HR3.out, Nat.le_refl _, HN3.out, b3, z3, HQ3.out⟩
      case round =>
        obtain ⟨k, S, hk, rfl, hR, hm, hN, hB, hz, hQ⟩ := hrel
        have HR6 := Lib.hid hR
        have HN := Lib.hid hN
        have HQ := Lib.hid hQ
        clear hR hN hQ HR3 HN3 HQ3
        have HR := HRD
        by_cases hlt : k < ls.length
        · obtain ⟨g, off, rfl, hg, hc⟩ := HR.out (by intro e; rw [e] at hlt; cases hlt)
          obtain ⟨c0, c1, c2, c3, c4, c5⟩ := hc k hlt
          have d0 := (hB.cell (p := ⟨g, off + k * 6, none⟩) hg).trans c0
          have d1 := (hB.cell (p := ⟨g, off + k * 6 + 1, none⟩) hg).trans c1
          have d2 := (hB.cell (p := ⟨g, off + k * 6 + 2, none⟩) hg).trans c2
          have d3 := (hB.cell (p := ⟨g, off + k * 6 + 3, none⟩) hg).trans c3
          have d4 := (hB.cell (p := ⟨g, off + k * 6 + 4, none⟩) hg).trans c4
          have d5 := (hB.cell (p := ⟨g, off + k * 6 + 5, none⟩) hg).trans c5
          clear c0 c1 c2 c3 c4 c5 hc
          obtain ⟨xc, hxc⟩ : ∃ xc, ls[k] = xc := ⟨_, rfl⟩
          rw [hxc] at d0 d1 d2 d3 d4 d5
          have HXX := Lib.hid hxc
          clear hxc
          go_wp2_with fail
          refine (rdo_any HR6.out (by omega) xc).mono ?_
          rintro e w6 ⟨⟨rfl, S6, g1, g2, g3⟩, g4⟩
          rw [← HXX.out] at g1 g4
          obtain ⟨r1, r2, r3, r4, r5, r6⟩ := rplay_next hlt HN.out hz (by omega) hB g1 g2 g3 g4 hm
          have hQ1 := HQ.out.frm g2 (fun e => by have := HN.out _ e; omega)
          have R1 := Lib.hid r1
          have R3 := Lib.hid r3
          clear g1 g2 g3 g4 r1 r3 r6 d0 d1 d2 d3 d4 d5
          go_wp2
          go_roundw
          case rel => exact ⟨k + 1, S6, by omega, by go_num, R1.out, r2, R3.out, r4, r5, hQ1⟩
          case measure => simp [intOf]; omega
        · have t1 : decide (k < ls.length) = false := by simp; omega
          have hM : (rplayK B1 B2 ls k).2 ≤ 20000 := by omega
          generalize (rplayK B1 B2 ls k).1 = L at HR6
          generalize (rplayK B1 B2 ls k).2 = M at HR6 hM
          have hs := HR6.out.srt
          have hI := HR6.out.inv
          have hll : L.length ≤ 4096 := by have := hI.few; have := hI.n0; omega
          have HS := Lib.hid hs
          clear hs hI hm HR HRD b3 t0
          go_wp2_with fail
          refine (rib_dump HR6.out).mono ?_
          rintro e w4 ⟨v4, rfl, ho4, hw4⟩
          have b4 := hB.trans (hw4.mono (by omega))
          have HR4 := Lib.hid (HR6.out.keep hw4)
          have HQ4 := Lib.hid (HQ.out.keep hw4)
          have HO4 := Lib.hid ho4
          obtain ⟨A4, c4, rfl, -⟩ := own_val ho4
          have z4 := b4.size
          clear ho4 hw4 HR6 HQ hB
          obtain ⟨x0, x1, x2, x3, x4, xz⟩ := id HQ4.out
          go_upto_region 12 with fail
          have hBs : Below w4.heap.size w4 (w4.alloc (.cells #[.int .u64 (u x.p.a.hi), .int .u64 (u x.p.a.lo), .bool x.p.a.v6, .int .i64 x.p.n, .int .i64 x.v] 37)) := by go_grown
          have hT0 : (w4.alloc (.cells #[.int .u64 (u x.p.a.hi), .int .u64 (u x.p.a.lo), .bool x.p.a.v6, .int .i64 x.p.n, .int .i64 x.v] 37)).ownsRow w4.heap.size 37 5 (.slice (some ⟨w4.heap.size, 0, none⟩) 1 1) (thenK L x 0).length (prv (thenK L x 0)) := own_lit5 (Nat.le_refl _) (heap_alloc_new w4 _)
          clear x0 x1 x2 x3 x4
          go_loopw [13, 14] (fun t i wr => ∃ j N : Nat, N = (thenK L x j).length ∧ j ≤ L.length ∧ i = .int .i64 j ∧ wr.ownsRow w4.heap.size 37 5 t N (prv (thenK L x j)) ∧ Below w4.heap.size w4 wr) (fun _ i _ => L.length - (intOf i).toNat)
          case atStart => exact ⟨0, 1, rfl, Nat.zero_le _, rfl, hT0, hBs⟩
          case round =>
            obtain ⟨j, N, hNj, hj, rfl, hown, hBj⟩ := hrel
            have HOW := Lib.hid hown
            obtain ⟨A8, c8, rfl, -⟩ := own_val hown
            have hNle : N ≤ 5000 := by have := thenK_len L x j; omega
            have HNJ := Lib.hid hNj
            clear hown hT0 hBs hNj
            have hzj := hBj.size
            by_cases hjl : j < L.length
            · have hts := thenK_succ L x hjl
              have j9 : (j : Int) + 1 ≤ 200000 := by omega
              have j1 : (j : Int) < (L.length : Int) := by omega
              obtain ⟨x0, x1, x2, x3, x4, xz⟩ := id (HQ4.out.keep hBj)
              obtain ⟨g, cg, eg, -, zg, hcc⟩ := row_cell (own_fresh HO4.out hBj) rfl hjl
              simp only [Value.slice.injEq, true_and] at eg
              obtain ⟨rfl, rfl⟩ := eg
              have m0 : wr.cell? ⟨g, j * 5, none⟩ = some (.int .u64 (u L[j].p.a.hi)) := hcc 0 (by omega)
              have m1 : wr.cell? ⟨g, j * 5 + 1, none⟩ = some (.int .u64 (u L[j].p.a.lo)) := hcc 1 (by omega)
              have m2 : wr.cell? ⟨g, j * 5 + 2, none⟩ = some (.bool L[j].p.a.v6) := hcc 2 (by omega)
              have m3 : wr.cell? ⟨g, j * 5 + 3, none⟩ = some (.int .i64 L[j].p.n) := hcc 3 (by omega)
              have m4 : wr.cell? ⟨g, j * 5 + 4, none⟩ = some (.int .i64 L[j].v) := hcc 4 (by omega)
              obtain ⟨y, hy⟩ : ∃ y, L[j] = y := ⟨_, rfl⟩
              rw [hy] at m0 m1 m2 m3 m4 hts
              have HTS := Lib.hid hts
              have hpq := pfEq_iff y.p x.p
              unfold pfEq at hpq
              clear hcc hy hts
              obtain ⟨W, rfl⟩ : ∃ W, W = wr := ⟨_, rfl⟩
              have Lm0 := fun x : Later W.heap.size W => (x.cell (p := ⟨g, j * 5, none⟩) zg).trans m0
              have Lm1 := fun x : Later W.heap.size W => (x.cell (p := ⟨g, j * 5 + 1, none⟩) zg).trans m1
              have Lm2 := fun x : Later W.heap.size W => (x.cell (p := ⟨g, j * 5 + 2, none⟩) zg).trans m2
              have Lm3 := fun x : Later W.heap.size W => (x.cell (p := ⟨g, j * 5 + 3, none⟩) zg).trans m3
              have Lm4 := fun x : Later W.heap.size W => (x.cell (p := ⟨g, j * 5 + 4, none⟩) zg).trans m4
              have Lx0 := fun q : Later W.heap.size W => (q.cell xz).trans x0
              have Lx1 := fun q : Later W.heap.size W => (q.cell xz).trans x1
              have Lx2 := fun q : Later W.heap.size W => (q.cell xz).trans x2
              have Lx3 := fun q : Later W.heap.size W => (q.cell xz).trans x3
              go_wp2_with fail
              refine region_later W.heap.size (by kernel_rfl) (by kernel_rfl) ?_
              repeat (go_big_quiet_step (fail))
              refine wpQuiet_nil ?_
              intro q
              have hx := q.below
              generalize q.at = V at hx ⊢
              clear q Lm0 Lm1 Lm2 Lm3 Lm4 Lx0 Lx1 Lx2 Lx3 x0 x1 x2 x3 x4
              have bV := hBj.trans (hx.mono hBj.size)
              have HOV := Lib.hid (own_fresh HOW.out hx)
              have q0 := (hx.cell (p := ⟨g, j * 5, none⟩) zg).trans m0
              have q1 := (hx.cell (p := ⟨g, j * 5 + 1, none⟩) zg).trans m1
              have q2 := (hx.cell (p := ⟨g, j * 5 + 2, none⟩) zg).trans m2
              have q3 := (hx.cell (p := ⟨g, j * 5 + 3, none⟩) zg).trans m3
              have q4 := (hx.cell (p := ⟨g, j * 5 + 4, none⟩) zg).trans m4
              have zV := bV.size
              clear hx m0 m1 m2 m3 m4 HOW hBj hzj
              obtain ⟨pq, hpqq⟩ : ∃ pq, pfB (u y.p.a.hi) (u y.p.a.lo) y.p.a.v6 y.p.n (u x.p.a.hi) (u x.p.a.lo) x.p.a.v6 x.p.n = pq := ⟨_, rfl⟩
              rw [hpqq] at hpq ⊢
              clear hpqq
              cases pq
              rotate_left
              · have e := hpq.1 rfl
                have HTS' : Hid (thenK L x (j + 1) = thenK L x j) := by rw [HTS.out, if_pos e]; exact Lib.hid (List.append_nil _)
                clear hpq e HTS q0 q1 q2 q3 q4 j9 j1
                go_wp2
                go_roundw
                case rel => exact ⟨j + 1, N, by rw [HTS'.out]; exact HNJ.out, by omega, by go_num, by rw [HTS'.out]; exact HOV.out, bV⟩
                case measure => simp [intOf]; omega
              · have e : ¬ y.p = x.p := fun e => by have := hpq.2 e; cases this
                have HTS' : Hid (thenK L x (j + 1) = thenK L x j ++ [y]) := by rw [HTS.out, if_neg e]; exact Lib.hid rfl
                clear hpq e HTS j9 j1
                go_wp2_with (
                  at_builtin
                  refine wpList_five1 five_route rfl (.tmp 68) (.tmp 73) rfl w4.heap.size _ N (thenK L x j) HNJ.out (by rfl) (HOV.out.alloc _) V.heap.size y (by rfl) (heap_alloc_new V _) (by omega) (by simp; omega) ?_
                  intro v2 w7 ho2 hb2
                  have b7 : Below w4.heap.size w4 w7 := bV.trans (Below.trans (by go_grown) hb2)
                  have HO2 := Lib.hid ho2
                  obtain ⟨A9, c9, rfl, -⟩ := own_val ho2
                  clear ho2 hb2
                  )
                go_roundw
                case rel => exact ⟨j + 1, N + 1, by rw [HTS'.out, List.length_append, ← HNJ.out]; rfl, by omega, by go_num, by rw [HTS'.out]; exact HO2.out, b7⟩
                case measure => simp [intOf]; omega
            · obtain rfl : j = L.length := by omega
              have hfit : fitsB B1 B2 L x.p x.v = (decide ((((thenK L x L.length).length : Nat) : Int) ≤ B1) && decide (((unlK (thenK L x L.length) (thenK L x L.length).length : Nat) : Int) ≤ B2)) := by
                unfold fitsB
                rw [then_len HS.out HGG.out.1, then_unl HS.out HGG.out.1]
              have hown := HOW.out
              have hNN := HNJ.out
              generalize thenK L x L.length = T at hfit hown hNN
              subst hNN
              have HFIT := Lib.hid hfit
              have HOT := Lib.hid hown
              have hTl : T.length ≤ 5000 := hNle
              have tl : decide ((L.length : Int) < (L.length : Int)) = false := by simp
              have b6 := b4.trans (hBj.mono z4)
              have HR6 := Lib.hid (HR4.out.keep hBj)
              have HQ6 := Lib.hid (HQ4.out.keep hBj)
              obtain ⟨w6, rfl⟩ : ∃ w6, w6 = wr := ⟨_, rfl⟩
              clear hfit hown HOW HNJ hBj HR4 HQ4 HO4 hNle hzj
              go_wp2_with fail
              go_loopw [15, 16] (fun c i wr => ∃ j : Nat, j ≤ T.length ∧ i = .int .i64 j ∧ c = .int .i64 ((unlK T j : Nat) : Int) ∧ Below w6.heap.size w6 wr) (fun _ i _ => T.length - (intOf i).toNat)
              case atStart => exact ⟨0, Nat.zero_le _, rfl, rfl, Below.refl _ _⟩
              case round =>
                obtain ⟨j, hj, rfl, rfl, hB7⟩ := hrel
                have hul := unlK_le T j
                by_cases hjl : j < T.length
                · have hus := unlK_succ T hjl
                  have hfm := fstK_mem T T[j].v j
                  have hfs := fun m (hm : m < T.length) => fstK_succ T T[j].v hm
                  obtain ⟨v, hv⟩ : ∃ v, T[j].v = v := ⟨_, rfl⟩
                  rw [hv] at hus hfm hfs
                  have HUS := Lib.hid hus
                  have HFM := Lib.hid hfm
                  have HFS := Lib.hid hfs
                  have HV := Lib.hid hv
                  clear hus hfm hfs hv
                  go_wp2_with fail
                  go_loopw [17, 18] (fun f k wr2 => ∃ m : Nat, m ≤ j ∧ k = .int .i64 m ∧ f = .bool (fstK T v m) ∧ Below w6.heap.size w6 wr2) (fun _ k _ => j - (intOf k).toNat)
                  case atStart => exact ⟨0, Nat.zero_le _, rfl, rfl, hB7⟩
                  case round =>
                    obtain ⟨m, hmj, rfl, rfl, hB8⟩ := hrel
                    by_cases hlt2 : m < j
                    · have hfs := HFS.out m (by omega)
                      obtain ⟨g, cg, eg, -, zg, hcc⟩ := row_cell (own_fresh HOT.out hB8) rfl hjl
                      simp only [Value.slice.injEq, true_and] at eg
                      obtain ⟨rfl, rfl⟩ := eg
                      have m4 : wr.cell? ⟨g, j * 5 + 4, none⟩ = some (.int .i64 v) := by rw [← HV.out]; exact hcc 4 (by omega)
                      obtain ⟨g2, c2, e2, -, z2', hcc2⟩ := row_cell (own_fresh HOT.out hB8) rfl (k := m) (by omega)
                      simp only [Value.slice.injEq, Option.some.injEq, Addr.mk.injEq, true_and, and_true] at e2
                      obtain ⟨rfl, rfl⟩ := e2
                      have o4 : wr.cell? ⟨g, m * 5 + 4, none⟩ = some (.int .i64 T[m].v) := hcc2 4 (by omega)
                      generalize T[m].v = v2 at o4 hfs
                      have hdv : decide (v2 ≠ v) = (v2 != v) := by rw [Bool.eq_iff_iff]; simp
                      rw [hdv] at hfs
                      obtain ⟨bq, hbq⟩ : ∃ bq, (v2 != v) = bq := ⟨_, rfl⟩
                      rw [hbq] at hfs
                      obtain ⟨fq, hfq⟩ : ∃ fq, fstK T v m = fq := ⟨_, rfl⟩
                      rw [hfq] at hfs ⊢
                      have HFS2 := Lib.hid hfs
                      have hmt : (m : Int) < (T.length : Int) := by omega
                      have hjt : (j : Int) < (T.length : Int) := by omega
                      clear hcc hcc2 hfs hfq hdv
                      obtain ⟨W, rfl⟩ : ∃ W, W = wr := ⟨_, rfl⟩
                      have Lm4 := fun q : Later W.heap.size W => (q.cell (p := ⟨g, j * 5 + 4, none⟩) zg).trans m4
                      have Lo4 := fun q : Later W.heap.size W => (q.cell (p := ⟨g, m * 5 + 4, none⟩) zg).trans o4
                      cases fq
                      · go_wp2_with fail
                        refine region_later W.heap.size (by kernel_rfl) (by kernel_rfl) ?_
                        repeat (go_big_quiet_step (fail))
                        refine wpQuiet_nil ?_
                        intro q
                        have hx := q.below
                        generalize q.at = V at hx ⊢
                        clear q Lm4 Lo4 m4 o4 hmt hjt
                        have bV := hB8.trans (hx.mono hB8.size)
                        clear hx
                        go_wp2
                        go_roundw
                        case rel => exact ⟨m + 1, by omega, by go_num, by rw [HFS2.out]; rfl, bV⟩
                        case measure => simp [intOf]; omega
                      · go_wp2_with fail
                        refine region_later W.heap.size (by kernel_rfl) (by kernel_rfl) ?_
                        repeat (go_big_quiet_step (fail))
                        refine wpQuiet_nil ?_
                        intro q
                        have hx := q.below
                        generalize q.at = V at hx ⊢
                        clear q Lm4 Lo4 m4 o4 hmt hjt
                        have bV := hB8.trans (hx.mono hB8.size)
                        clear hx
                        go_wp2
                        go_roundw
                        case rel => exact ⟨m + 1, by omega, by go_num, by rw [HFS2.out]; simp, bV⟩
                        case measure => simp [intOf]; omega
                    · obtain rfl : m = j := by omega
                      have tm : decide ((m : Int) < (m : Int)) = false := by simp
                      rw [HFM.out]
                      by_cases hin : v ∈ hopsL (T.take m)
                      · have HU' : Hid (unlK T (m + 1) = unlK T m) := by rw [HUS.out, if_pos hin]; exact Lib.hid rfl
                        have tf : (!decide (v ∈ hopsL (T.take m))) = false := by simp [hin]
                        rw [tf]
                        clear hin tf
                        go_wp2
                        go_roundw
                        case rel => exact ⟨m + 1, by omega, by go_num, by rw [HU'.out], hB8⟩
                        case measure => simp [intOf]; omega
                      · have HU' : Hid (unlK T (m + 1) = unlK T m + 1) := by rw [HUS.out, if_neg hin]; exact Lib.hid rfl
                        have tf : (!decide (v ∈ hopsL (T.take m))) = true := by simp [hin]
                        rw [tf]
                        clear hin tf
                        go_wp2
                        go_roundw
                        case rel => exact ⟨m + 1, by omega, by go_num, by rw [HU'.out]; go_num, hB8⟩
                        case measure => simp [intOf]; omega
                · obtain rfl : j = T.length := by omega
                  have tj : decide ((T.length : Int) < (T.length : Int)) = false := by simp
                  have b9 := b6.trans (hB7.mono b6.size)
                  have HR9 := Lib.hid (HR6.out.keep hB7)
                  have HQ9 := Lib.hid (HQ6.out.keep hB7)
                  have hfit := HFIT.out
                  generalize unlK T T.length = UU at hfit hul ⊢
                  obtain ⟨x0, x1, x2, x3, x4, xz⟩ := id HQ9.out
                  clear hB7 HR6 HQ6 HOT HFIT
                  by_cases c1 : (T.length : Int) ≤ B1
                  · have t2 : decide ((T.length : Int) ≤ B1) = true := decide_eq_true c1
                    by_cases c2 : (UU : Int) ≤ B2
                    · have t3 : decide ((UU : Int) ≤ B2) = true := decide_eq_true c2
                      have hf0 : fitsB B1 B2 L x.p x.v = true := by rw [hfit, t2, t3]; rfl
                      have h0 : addE B1 B2 L x.p x.v = 0 := by
                        unfold addE
                        rw [if_pos HGG.out.1, if_pos HGG.out.2, if_pos hf0]
                      have h1 : addQ B1 B2 L x.p x.v = putL x.p x.v L := by unfold addQ; rw [if_pos h0]
                      have HQQ := Lib.hid h1
                      clear hfit hf0 h1
                      have cA := rib_add HR9.out (by omega) x.p x.v
                      rw [h0] at cA
                      have CA := Lib.hid cA
                      clear cA
                      go_wp2_with fail
                      refine CA.out.mono ?_
                      rintro e y1 ⟨⟨rfl, S9, g1, g2, g3⟩, g4⟩
                      have b10 := b9.trans (g2.below (fun b hb => by have := HN.out b hb; omega) b9.size)
                      have HQ10 := Lib.hid (HQ9.out.frm g2 (fun e => by have := HN.out _ e; omega))
                      have HR10 := Lib.hid g1
                      obtain ⟨x0, x1, x2, x3, x4, xz⟩ := id HQ10.out
                      clear g1 g2 g3 g4 CA HQ9 HR9
                      have cg := rib_governs HR10.out x.p
                      unfold OptPost at cg
                      rw [HQQ.out, gov_put HS.out HGG.out.1] at cg
                      simp only [Option.getD_some, Option.isSome_some] at cg
                      have CGG := Lib.hid cg
                      clear cg
                      go_wp2_with fail
                      refine CGG.out.mono ?_
                      rintro e y2 ⟨rfl, hy2⟩
                      have b11 := b10.trans (hy2.mono b10.size)
                      obtain ⟨k0, k1', k2', k3, k4, kz⟩ := id (HQ10.out.keep hy2)
                      have hkn : ¬ w.heap.size = y2.heap.size := by omega
                      clear hy2 x0 x1 x2 x3 x4
                      go_wp2
                      go_ret
                      exact ⟨rfl, b11.alloc b11.size _⟩
                    · have t3 : decide ((UU : Int) ≤ B2) = false := decide_eq_false c2
                      have hf0 : fitsB B1 B2 L x.p x.v = false := by rw [hfit]; simp [t2, t3]
                      have h0 : addE B1 B2 L x.p x.v = 3 := by
                        unfold addE
                        rw [if_pos HGG.out.1, if_pos HGG.out.2, hf0]
                        rfl
                      clear hfit hf0
                      have cA := rib_add HR9.out (by omega) x.p x.v
                      rw [h0] at cA
                      have CA := Lib.hid cA
                      clear cA
                      go_wp2_with fail
                      refine CA.out.mono ?_
                      rintro e y1 ⟨⟨rfl, S9, g1, g2, g3⟩, g4⟩
                      have b10 := b9.trans (g2.below (fun b hb => by have := HN.out b hb; omega) b9.size)
                      have HQ10 := Lib.hid (HQ9.out.frm g2 (fun e => by have := HN.out _ e; omega))
                      have HR10 := Lib.hid g1
                      obtain ⟨x0, x1, x2, x3, x4, xz⟩ := id HQ10.out
                      clear g1 g2 g3 g4 CA HQ9 HR9
                      have cg := rib_governs HR10.out x.p
                      unfold OptPost at cg
                      generalize govL _ _ = GG at cg
                      obtain ⟨zz, hzz⟩ : ∃ zz, GG.getD nilPr = zz := ⟨_, rfl⟩
                      rw [hzz] at cg
                      have CGG := Lib.hid cg
                      clear cg hzz
                      go_wp2_with fail
                      refine CGG.out.mono ?_
                      rintro e y2 ⟨rfl, hy2⟩
                      have b11 := b10.trans (hy2.mono b10.size)
                      clear hy2 x0 x1 x2 x3 x4
                      go_wp2
                      go_ret
                      exact ⟨rfl, b11.alloc b11.size _⟩
                  · have t2 : decide ((T.length : Int) ≤ B1) = false := decide_eq_false c1
                    have hf0 : fitsB B1 B2 L x.p x.v = false := by rw [hfit]; simp [t2]
                    have h0 : addE B1 B2 L x.p x.v = 3 := by
                      unfold addE
                      rw [if_pos HGG.out.1, if_pos HGG.out.2, hf0]
                      rfl
                    clear hfit hf0
                    have cA := rib_add HR9.out (by omega) x.p x.v
                    rw [h0] at cA
                    have CA := Lib.hid cA
                    clear cA
                    go_wp2_with fail
                    refine CA.out.mono ?_
                    rintro e y1 ⟨⟨rfl, S9, g1, g2, g3⟩, g4⟩
                    have b10 := b9.trans (g2.below (fun b hb => by have := HN.out b hb; omega) b9.size)
                    have HQ10 := Lib.hid (HQ9.out.frm g2 (fun e => by have := HN.out _ e; omega))
                    have HR10 := Lib.hid g1
                    obtain ⟨x0, x1, x2, x3, x4, xz⟩ := id HQ10.out
                    clear g1 g2 g3 g4 CA HQ9 HR9
                    have cg := rib_governs HR10.out x.p
                    unfold OptPost at cg
                    generalize govL _ _ = GG at cg
                    obtain ⟨zz, hzz⟩ : ∃ zz, GG.getD nilPr = zz := ⟨_, rfl⟩
                    rw [hzz] at cg
                    have CGG := Lib.hid cg
                    clear cg hzz
                    go_wp2_with fail
                    refine CGG.out.mono ?_
                    rintro e y2 ⟨rfl, hy2⟩
                    have b11 := b10.trans (hy2.mono b10.size)
                    clear hy2 x0 x1 x2 x3 x4
                    go_wp2
                    go_ret
                    exact ⟨rfl, b11.alloc b11.size _⟩

end Go.Proofs.Ytnepmlhbheaonaa

namespace Go.Proofs.Ytnepmlhbheaonaa
set_option maxRecDepth 100000
open Go.ChangeShapes Go.WideShapes Go.ChangeAt Go.RowKit Go.Joins Go.Deep

theorem open_pr {H : Type} {enc : TypeId × Value → H} {W : World} {base b0 : Nat} {spare : Nat → Bool} {held : Bool} {r : Reach} {v : Value} {d : DataW H} {p : List MemPlace}
    (hv : Value.okWide Try.prog W r b0 37 v) (h : DataW.Trod enc Try.prog W base spare held 37 v d p) :
    ∃ a : Pr, v = .agg #[.int .u64 (u a.p.a.hi), .int .u64 (u a.p.a.lo), .bool a.p.a.v6, .int .i64 a.p.n, .int .i64 a.v] := by
  obtain ⟨cs, rfl, hsz⟩ := okWide_struct Try.underlying37 hv
  obtain ⟨cs⟩ := cs
  match cs, hsz.trans (show Try.prog.cellsOf 37 = 5 by kernel_rfl) with
  | [c0, c1, c2, c3, c4], _ =>
  obtain ⟨fuel, hf⟩ := h
  obtain ⟨y0, y1, n, hx, _, h0, h1⟩ := trod_struct2 Try.underlying37 hf
  have k0 : Try.prog.cellsOf 26 = 4 := by kernel_rfl
  have k1 : Try.prog.cellsOf 3 = 1 := by kernel_rfl
  have g0 : DataW.trod enc Try.prog W base spare held n 26 [c0, c1, c2, c3] = some y0 := by simpa [Value.cells, k0] using h0
  have g1 : DataW.trod enc Try.prog W base spare held n 3 [c4] = some y1 := by simpa [Value.cells, k1] using h1
  obtain ⟨y2, y3, n2, _, _, h2, h3⟩ := trod_struct2 Try.underlying26 g0
  have k4 : Try.prog.cellsOf 24 = 3 := by kernel_rfl
  have g2 : DataW.trod enc Try.prog W base spare held n2 24 [c0, c1, c2] = some y2 := by simpa [k4] using h2
  have g3 : DataW.trod enc Try.prog W base spare held n2 3 [c3] = some y3 := by simpa [k1] using h3
  obtain ⟨z0, z1, z2, m, hz, _, i0, i1, i2⟩ := trod_struct3 Try.underlying24 g2
  have k2 : Try.prog.cellsOf 22 = 1 := by kernel_rfl
  have k3 : Try.prog.cellsOf 4 = 1 := by kernel_rfl
  have j0 : DataW.trod enc Try.prog W base spare held m 22 [c0] = some z0 := by simpa [k2] using i0
  have j1 : DataW.trod enc Try.prog W base spare held m 22 [c1] = some z1 := by simpa [k2] using i1
  have j2 : DataW.trod enc Try.prog W base spare held m 4 [c2] = some z2 := by simpa [k3] using i2
  obtain ⟨x0, e0, _, w0⟩ := DataW.trod_int Try.underlying22 j0
  obtain ⟨x1, e1, _, w1⟩ := DataW.trod_int Try.underlying22 j1
  obtain ⟨x2, e2, _⟩ := DataW.trod_bool Try.underlying4 j2
  obtain ⟨x3, e3, _, w3⟩ := DataW.trod_int Try.underlying3 g3
  obtain ⟨x4, e4, _, w4⟩ := DataW.trod_int Try.underlying3 g1
  obtain ⟨lo0, hi0⟩ := bounds_u64 w0
  obtain ⟨lo1, hi1⟩ := bounds_u64 w1
  obtain ⟨a0, rfl⟩ := u_of x0 lo0 (by omega)
  obtain ⟨a1, rfl⟩ := u_of x1 lo1 (by omega)
  simp at e0 e1 e2 e3 e4
  subst e0 e1 e2 e3 e4
  exact ⟨⟨⟨⟨a0, a1, x2⟩, x3⟩, x4⟩, rfl⟩

end Go.Proofs.Ytnepmlhbheaonaa

namespace Go.Proofs.Ytnepmlhbheaonaa
open Go.ChangeShapes Go.WideShapes Go.ChangeAt Go.RowKit

set_option maxRecDepth 100000 in
theorem ribFull_lifted (os : Os) (started : os.Started) (H : Type) (enc : TypeId × Value → H) :
    ReturnsInHanded {} Try.checked os 8 .any (Rows.ribFullSpec.pre6 enc Try.prog Try.f8 Rows.ribFullRow.domain false) (Rows.ribFullSpec.post enc Try.prog Try.f8 false true false false) := by
  refine returnsInHanded_of_change (C := Try.checked) own started (by kernel_rfl) Try.func8
    (ChangeSpec.witness6 (enc := enc) (C := Try.checked) false ⟨#[], #[.int .i64 0, .int .i64 0, .slice none 0 0, .agg #[.int .u64 0, .int .u64 0, .bool false, .int .i64 0, .int .i64 0]], []⟩ 8 (by kernel_rfl) (by kernel_rfl) (by kernel_rfl) (by kernel_rfl)) ?_
  intro W base args ds gs before hval0 hW hcnd _
  have hval : ∀ (j : Nat) t v, Try.f8.params[j]? = some t → args[j]? = some v → Value.okWide Try.prog W .any base t v := hval0
  have hW' := hW
  obtain ⟨p, q, hA0, hV, rfl, hfz, hnd⟩ := hW
  have hA : DataW.TrodAll enc Try.prog W 0 (fun _ => true) true Try.f8.params.toList args.toList ds p := hA0
  rw [Try.params8] at hA hval
  obtain ⟨v0, vs0, d0, ds0, p0, q0, hargs, rfl, rfl, h0, r0⟩ := trodAll_cons hA
  obtain ⟨v1, vs1, d1, ds1, p1, q1, rfl, rfl, rfl, h1, r1⟩ := trodAll_cons r0
  obtain ⟨v2, vs2, d2, ds2, p2, q2, rfl, rfl, rfl, h2, r2⟩ := trodAll_cons r1
  obtain ⟨v3, vs3, d3, ds3, p3, q3, rfl, rfl, rfl, h3, r3⟩ := trodAll_cons r2
  obtain ⟨rfl, rfl, rfl⟩ := trodAll_nil r3
  obtain rfl : args = #[v0, v1, v2, v3] := by cases args; simp_all
  obtain ⟨rfl, rfl⟩ := trodVars_none hV
  have lt0 : ∀ x ∈ p0, x.block < W.heap.size := by obtain ⟨m, hm⟩ := h0; exact DataW.trod_lt m _ _ _ hm
  have k0 := h0
  obtain ⟨a0, rfl, e0, f0, w0⟩ := open_int Try.underlying3 (hval 0 3 v0 rfl rfl) h0
  have lt1 : ∀ x ∈ p1, x.block < W.heap.size := by obtain ⟨m, hm⟩ := h1; exact DataW.trod_lt m _ _ _ hm
  have k1 := h1
  obtain ⟨a1, rfl, e1, f1, w1⟩ := open_int Try.underlying3 (hval 1 3 v1 rfl rfl) h1
  have lt2 : ∀ x ∈ p2, x.block < W.heap.size := by obtain ⟨m, hm⟩ := h2; exact DataW.trod_lt m _ _ _ hm
  obtain ⟨A2, cap2, l2, rfl, w2⟩ := open_acs6 (hval 2 50 v2 rfl rfl) h2 (fun _ => rfl)
  have lt3 : ∀ x ∈ p3, x.block < W.heap.size := by obtain ⟨m, hm⟩ := h3; exact DataW.trod_lt m _ _ _ hm
  obtain ⟨a3, rfl⟩ := open_pr (hval 3 37 v3 rfl rfl) h3
  clear hA0 hval0
  refine (ribfull_law a0 a1 A2 cap2 l2 a3 W w2).mono fun e W' ⟨he, bel⟩ => ?_
  subst he
  exact ⟨_, rfl, _, _, _, [], _, [], hW', trodAll_mk1 (shut_bool Try.underlying4 _), (trodAll_cons_mk (Below.trod laidOut (by kernel_rfl) (of_decide_eq_true (by kernel_rfl)) h0 bel lt0) (trodAll_cons_mk (Below.trod laidOut (by kernel_rfl) (of_decide_eq_true (by kernel_rfl)) h1 bel lt1) (trodAll_cons_mk (Below.trod laidOut (by kernel_rfl) (of_decide_eq_true (by kernel_rfl)) h2 bel lt2) (trodAll_cons_mk (Below.trod laidOut (by kernel_rfl) (of_decide_eq_true (by kernel_rfl)) h3 bel lt3) trodAll_mk0)))), rfl, bel.frame _, fun h => by cases h⟩

theorem ribFull_holds : Rows.RibFullSaid :=
  OpenClaim.holds_of_wide 8 Try.f8 rfl rfl rfl rfl rfl rfl rfl ⟨rfl, rfl, rfl, rfl, rfl⟩ rfl rfl rfl rfl rfl (by kernel_rfl) Try.func8 (by kernel_rfl)
    (of_decide_eq_true (by kernel_rfl)) (by unfold Func.isWrapper; first | (rw [if_pos (by decide +kernel)]; kernel_rfl) | (rw [if_neg (by decide +kernel)]; exact ⟨rfl, rfl⟩))
    (fun os started H enc _ => ribFull_lifted os started H enc)

end Go.Proofs.Ytnepmlhbheaonaa
