/-
  WireRows returns true, whatever bytes. No condition.
-/
import Derived.Test.YtibhabglmkgaaaaLdA
import Derived.Test.YtibhabglmkgaaaaVi
namespace Go.Proofs.Ytibhabglmkgaaaa
open Go.RowKit Go.WideShapes
set_option maxRecDepth 100000

theorem RdR.news {w : World} {ad : Addr} {rs : List Rt} (h : RdR w (some ad) rs) : ∀ j x, (rtv rs)[j]? = some x → w.cell? (ad.add j) = some x := by
  intro j x hx
  have hj : j < (rtv rs).length := by
    rcases Nat.lt_or_ge j (rtv rs).length with h1 | h1
    · exact h1
    · rw [List.getElem?_eq_none h1] at hx; cases hx
  rw [rtv_len] at hj
  have hi : j / 5 < rs.length := by omega
  obtain ⟨g, off, e, _, a0, a1, a2, a3, a4⟩ := h.at_ hi
  injection e with e
  subst e
  have e5 : j = j / 5 * 5 + j % 5 := by omega
  have ht : j % 5 < 5 := Nat.mod_lt _ (by omega)
  rw [e5, rtv_at rs (j / 5) hi (j % 5) ht] at hx
  rw [add_plain', show off + j = off + j / 5 * 5 + j % 5 by omega]
  generalize j % 5 = t at *
  match t, ht with
  | 0, _ => exact a0.trans hx
  | 1, _ => exact a1.trans hx
  | 2, _ => exact a2.trans hx
  | 3, _ => exact a3.trans hx
  | 4, _ => exact a4.trans hx
theorem rtv_cell (rs : List Rt) : ∀ x ∈ rtv rs, x.oneCell' = true := by
  intro x hx
  obtain ⟨r, _, hr⟩ := List.mem_flatMap.1 hx
  exact rt5_cell r x hr
theorem routes_append (W : World) (base : Nat) (v : Value) (rs : List Rt) (ty : TypeId) (hown : W.ownsRow base 29 5 v rs.length (rtv rs)) (A : Option Addr) (c : Nat) (ss : List Rt) (hr : RdR W A ss) (hb : rs.length + ss.length ≤ 1000000) (hbase : base ≤ W.heap.size) :
    ∃ v' w', (Builtin.append_ #[36, 36] ty #[v, .slice A ss.length c]).run Try.prog W = .ok v' w' ∧ w'.ownsRow base 29 5 v' (rs ++ ss).length (rtv (rs ++ ss)) ∧ W.grownBy w' v.ownBlock := by
  obtain ⟨i0, hi0, hz0, hz1, hz2⟩ := info_parts info_rt
  rcases A with _ | ad
  · have h0 : ss = [] := by
      rcases ss with _ | ⟨s, ss⟩
      · rfl
      · obtain ⟨g, off, e, _⟩ := hr (by simp)
        cases e
    subst h0
    refine ⟨v, W, ?_, by simpa using hown, World.grownBy.refl W _⟩
    rcases hown.2 with ⟨rfl, hn⟩ | ⟨g, cap, cur, rfl, _, _, hnc, _⟩
    · simp [Builtin.append_, run_underlying Try.underlying36, sizeOf, typeInfo, hi0, Builtin.lenOf, Builtin.firstCells]
    · simp [Builtin.append_, run_underlying Try.underlying36, sizeOf, typeInfo, hi0, Builtin.lenOf, Builtin.firstCells, hnc, storeCells]
  · obtain ⟨v', w', e1, e2, e3, _, _⟩ := run_append_own_at (P := Try.prog) W base 36 ty 29 i0 _ 5 40 Try.underlying36 hi0 hz0 hz1 hz2 rfl (by omega) v _ _ hown ad ss.length c (rtv ss) (rtv_len ss) hr.news (rtv_cell ss) (by simp only [maxLen]; omega) (by omega) hbase
    exact ⟨v', w', e1, by rw [rtv_append, List.length_append]; exact e2, e3⟩
theorem wpList_routes {ops : Array Oper} {o : Oper} {a : Act} {w : World} {Q : Exit → Act → World → Prop} {rest : List Oper} (hgd : o.guard = none) (s x : Operand) (ho : o.op = .call { callee := .builtin .append, args := #[s, x], argTypes := #[36, 36] }) (base : Nat) (v : Value) (rs : List Rt) (hs : a.eval s = v)
    (hown : w.ownsRow base 29 5 v rs.length (rtv rs)) (A : Option Addr) (m c : Nat) (ss : List Rt) (hx : a.eval x = .slice A m c) (hm : m = ss.length) (hr : RdR w A ss) (hb : rs.length + ss.length ≤ 1000000) (hbase : base ≤ w.heap.size)
    (h : ∀ v' w', w'.ownsRow base 29 5 v' (rs ++ ss).length (rtv (rs ++ ss)) → Below base w w' → w.grownBy w' v.ownBlock → wpList Try.prog ops Q rest (a.put o.dst v') w') : wpList Try.prog ops Q (o :: rest) a w :=
  wpList_plain hgd fun _ hK => by
    subst hm
    obtain ⟨v', w', e1, e2, e3⟩ := routes_append w base v rs o.type hown A c ss hr hb hbase
    unfold Oper.wp execOp
    simp only [ho, resolve, invoke, builtin, Sem.run_bind, Sem.run_pure, Result.andThen_ok, List.map_toArray, List.map_cons, List.map_nil, hs, hx, e1]
    exact hK _ _ (h v' w' e2 ((Below.refl base w).grown e3 hbase (own_ge hown)) e3)
theorem RdR.grown {w w' : World} {A : Option Addr} {rs : List Rt} {row : Option Nat} (h : RdR w A rs) (hg : w.grownBy w' row) (hne : ∀ g off, A = some ⟨g, off, none⟩ → some g ≠ row) : RdR w' A rs := fun hn => by
  obtain ⟨g, off, e, hlt, hc⟩ := h hn
  have k : ∀ o, w'.cell? ⟨g, o, none⟩ = w.cell? ⟨g, o, none⟩ := fun o => hg.cell_far ⟨g, o, none⟩ hlt (hne g off e)
  exact ⟨g, off, e, Nat.lt_of_lt_of_le hlt hg.size, fun i hi => ⟨(k _).trans (hc i hi).1, (k _).trans (hc i hi).2.1, (k _).trans (hc i hi).2.2.1, (k _).trans (hc i hi).2.2.2.1, (k _).trans (hc i hi).2.2.2.2⟩⟩
/-- No more routes than bytes. -/
theorem gal_len (n : Nat) : ∀ l : List Int, l.length ≤ n → (∀ x ∈ l, 0 ≤ x ∧ x < 256) → (galR l).length ≤ l.length := by
  induction n with
  | zero =>
    intro l hn _
    have : l = [] := List.eq_nil_of_length_eq_zero (by omega)
    subst this
    exact Nat.le_refl _
  | succ n ih =>
    intro l hn hb
    by_cases h0 : l.length = 0
    · have : l = [] := List.eq_nil_of_length_eq_zero h0
      subst this
      exact Nat.le_refl _
    · by_cases he : grE l = 0
      · obtain ⟨n1, _, n3⟩ := grN_bd hb he
        have hd : (l.drop (grN l)).length = l.length - grN l := List.length_drop
        have := ih (l.drop (grN l)) (by omega) (bd_drop hb _)
        rw [(gal_go hb (by omega) he).2]
        split
        · rw [List.length_cons]; omega
        · simp
      · rw [(gal_bad (by omega) he).1]
        simp

set_option maxHeartbeats 2000000 in
theorem wrows_long (A : Option Addr) (c n : Nat) (B : Option Addr) (d m : Nat) (w : World) (h : 500 < n ∨ 500 < m) : Calls Try.prog 8 #[.slice A n c, .slice B m d] w fun e w' => e = .returned (.bool true) ∧ Below w.heap.size w w' := by
  rcases Nat.lt_or_ge 500 n with h1 | h1
  · have t1 : decide (500 < (n : Int)) = true := by simp; omega
    clear h
    go_enter Try.func8, Try.ntmps8
    go_wp2_with fail
    refine (awake4_any _).mono ?_
    rintro e w1 ⟨rfl, hw1⟩
    have zw1 := hw1.size
    have bw1 := below_of (w := w) (by go_grown) hw1
    try simp at zw1
    go_wp2
    go_ret
    exact ⟨rfl, bw1⟩
  · have t1 : decide (500 < (n : Int)) = false := by simp; omega
    have t2 : decide (500 < (m : Int)) = true := by simp; omega
    clear h
    go_enter Try.func8, Try.ntmps8
    go_wp2_with fail
    refine (awake4_any _).mono ?_
    rintro e w1 ⟨rfl, hw1⟩
    have zw1 := hw1.size
    have bw1 := below_of (w := w) (by go_grown) hw1
    try simp at zw1
    go_wp2
    go_ret
    exact ⟨rfl, bw1⟩

set_option maxHeartbeats 4000000 in
theorem wrows_short (A : Option Addr) (c : Nat) (a : List Int) (B : Option Addr) (d : Nat) (b : List Int) (w : World) (ha : Rd w A c a) (hb : Rd w B d b) (h1 : a.length ≤ 500) (h2 : b.length ≤ 500) : Calls Try.prog 8 #[.slice A a.length c, .slice B b.length d] w fun e w' => e = .returned (.bool true) ∧ Below w.heap.size w w' := by
  have t1 : decide (500 < (a.length : Int)) = false := by simp; omega
  have t2 : decide (500 < (b.length : Int)) = false := by simp; omega
  have hab : ∀ x ∈ a ++ b, 0 ≤ x ∧ x < 256 := fun x hx => (List.mem_append.1 hx).elim (ha.2.2.1 x) (hb.2.2.1 x)
  have GA := Lib.hid (gal_append _ a b (Nat.le_refl _) ha.2.2.1 hb.2.2.1)
  have l1 := gal_len _ a (Nat.le_refl _) ha.2.2.1
  have l2 := gal_len _ b (Nat.le_refl _) hb.2.2.1
  have l3 := gal_len _ (a ++ b) (Nat.le_refl _) hab
  rw [List.length_append] at l3
  have HA := Lib.hid ha
  have HB := Lib.hid hb
  have HAB := Lib.hid hab
  clear ha hb hab
  go_enter Try.func8, Try.ntmps8
  go_wp2_with fail
  refine (awake4_any _).mono ?_
  rintro e w1 ⟨rfl, hw1⟩
  have zw1 := hw1.size
  have bw1 := below_of (w := w) (by go_grown) hw1
  try simp at zw1
  clear hw1
  go_wp2_with fail
  refine (getAll_any A c a _ (HA.out.keep (by go_grown)) (by omega)).mono ?_
  rintro e w2 ⟨v2, rfl, ho2, hw2⟩
  obtain ⟨_, X, cx, rfl, hcx, hr2⟩ := own_rdr ho2
  have bw2 := below_of (w := w) (by go_grown) hw2
  have zw2 := hw2.size
  have O2 := Lib.hid (own_base (base' := w.heap.size) ho2 bw1.size)
  have X2 := Lib.hid (fun k hk => (ho2.lt k hk).2)
  clear ho2 hr2
  go_wp2_with fail
  refine (getAll_any B d b _ (HB.out.keep (by go_grown)) (by omega)).mono ?_
  rintro e w3 ⟨v3, rfl, ho3, hw3⟩
  obtain ⟨_, Y, cy, rfl, hcy, hr3⟩ := own_rdr ho3
  have bw3 := below_of (w := w) (by go_grown) hw3
  have zw3 := hw3.size
  have O3 := Lib.hid (own_keep O2.out hw3)
  have R3 := Lib.hid hr3
  clear ho3 hr3 O2 hw2 hw3
  go_upto_region 7 with (
    at_builtin
    refine wpList_bytes rfl (.tmp 33) (.tmp 34) rfl w3.heap.size _ 0 [] (by rfl) (own_lit (xs := bv []) (heap_alloc_new w3 _) (Nat.le_refl _) (by simp only [maxLen]; omega) rfl) _ _ c a (by rfl) rfl (HA.out.keep (by go_grown)) (by omega) (by simp) ?_
    intro v5 w5 ho5 hb5
    have H5 := Lib.hid ho5
    have hk5 : Below w3.heap.size w3 w5 := Below.trans (by go_grown) hb5
    have zw5 := hk5.size
    clear ho5 hb5
    )
  go_wp2_with (
    at_builtin
    refine wpList_bytes rfl (.tmp 36) (.tmp 37) rfl w3.heap.size _ _ _ (by rfl) H5.out _ _ d b (by rfl) rfl (HB.out.keep (bw3.trans (hk5.mono bw3.size))) (by simp; omega) zw5 ?_
    intro v6 w6 ho6 hb6
    obtain ⟨_, E, m, rfl, hr6⟩ := own_rd ho6 (by simpa using HAB.out)
    have hk6 : Below w3.heap.size w3 w6 := hk5.trans hb6
    have zw6 := hk6.size
    have HR6 := Lib.hid (show Rd w6 E m (a ++ b) by simpa using hr6)
    clear ho6 hb6 hr6
    )
  have bw6 : Below w.heap.size w w6 := bw3.trans (hk6.mono bw3.size)
  have O6 := Lib.hid (own_keep O3.out hk6)
  have R6 := Lib.hid (R3.out.keep hk6)
  clear O3 R3 hk6 hk5 H5
  have cA := getAll_any E m (a ++ b) w6 HR6.out (by rw [List.length_append]; omega)
  rw [List.length_append] at cA
  refine cA.mono ?_
  clear cA
  rintro e w7 ⟨v7, rfl, ho7, hw7⟩
  obtain ⟨_, Z, cz, rfl, hcz, hr7⟩ := own_rdr ho7
  have bw7 := below_of (w := w) (by go_grown) hw7
  have zw7 := hw7.size
  have O7 := Lib.hid (own_keep O6.out hw7)
  have R7 := Lib.hid (R6.out.keep hw7)
  have Z7 := Lib.hid hr7
  have Y7 := Lib.hid (own_ge ho7)
  clear ho7 hr7 O6 R6 hw7 HR6
  by_cases hE : galE a = 0
  · have t3 : (galE a != 0) = false := by simp [hE]
    obtain ⟨g1, g2⟩ := GA.out hE
    clear GA
    by_cases hF : galE b = 0
    · have t4 : (galE b != 0) = false := by simp [hF]
      have t5 : (galE (a ++ b) == 0) = true := by rw [g1]; simp [hF]
      have G2 := Lib.hid (g2 hF)
      clear g1 g2 hE hF
      go_wp2_with (
        at_builtin
        refine wpList_routes rfl (.tmp 60) (.tmp 61) rfl w.heap.size _ (galR a) (by rfl) O7.out _ _ cy (galR b) (by rfl) rfl R7.out (by omega) bw7.size ?_
        intro v8 w8 ho8 hb8 hg8
        obtain ⟨_, Q, cq, rfl, hcq, hr8⟩ := own_rdr ho8
        have HR8 := Lib.hid hr8
        have HZ8 := Lib.hid (Z7.out.grown hg8 (by
          intro g off e1 e2
          have y := Y7.out g (by rw [e1]; rfl)
          have x := X2.out g e2.symm
          omega))
        clear ho8 hr8 hg8
        )
      have cS := same_yes Z Q cz cq (galR (a ++ b)) w8 (by omega) HZ8.out (by rw [G2.out]; exact HR8.out)
      have eL := congrArg List.length G2.out
      rw [List.length_append] at eL
      rw [← eL]
      refine cS.mono ?_
      rintro e w9 ⟨rfl, hw9⟩
      have bw8 := bw7.trans (hb8.mono (Nat.le_refl _))
      have bw9 := bw8.trans (hw9.mono bw8.size)
      clear cS eL hw9
      go_wp2
      go_ret
      exact ⟨rfl, bw9⟩
    · have t4 : (galE b != 0) = true := by simp [hF]
      have t5 : (galE (a ++ b) == galE b) = true := by rw [g1]; simp
      have t6 : galR (a ++ b) = [] := gal_err (by rw [g1]; exact hF)
      have t7 : (((galR (a ++ b)).length : Int) == 0) = true := by rw [t6]; rfl
      have T6 := Lib.hid t6
      clear g1 g2 hE hF t6
      go_wp2
      go_ret
      exact ⟨rfl, bw7⟩
  · have t3 : (galE a != 0) = true := by simp [hE]
    clear hE GA
    go_wp2
    go_ret
    exact ⟨rfl, bw7⟩

theorem wrows_law (A : Option Addr) (c : Nat) (a : List Int) (B : Option Addr) (d : Nat) (b : List Int) (w : World) (ha : Rd w A c a) (hb : Rd w B d b) : Calls Try.prog 8 #[.slice A a.length c, .slice B b.length d] w fun e w' => e = .returned (.bool true) ∧ Below w.heap.size w w' := by
  by_cases h : 500 < a.length ∨ 500 < b.length
  · exact wrows_long A c _ B d _ w h
  · exact wrows_short A c a B d b w ha hb (by omega) (by omega)

end Go.Proofs.Ytibhabglmkgaaaa
