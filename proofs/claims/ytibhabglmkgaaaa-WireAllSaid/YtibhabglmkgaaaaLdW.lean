/-
  WireAll returns true, whatever routes and bytes. No condition.
-/
import Derived.Test.YtibhabglmkgaaaaLdR
import Derived.Test.YtibhabglmkgaaaaMix
namespace Go.Proofs.Ytibhabglmkgaaaa
open Go.RowKit Go.WideShapes
set_option maxRecDepth 100000

theorem filter_take (rs : List Rt) (k : Nat) (h : k < rs.length) : (rs.take (k + 1)).filter rgood = (rs.take k).filter rgood ++ if rgood rs[k] = true then [rs[k]] else [] := by
  rw [List.take_succ_eq_append_getElem h, List.filter_append]
  congr 1
  by_cases hg : rgood rs[k] = true
  · rw [if_pos hg, List.filter_cons_of_pos hg]
    rfl
  · rw [if_neg hg, List.filter_cons_of_neg hg]
    rfl
theorem keepc {W w' : World} {B : Option Addr} {d : Nat} {b : List Int} (h : Rd W B d b) (hb : Below W.heap.size W w') :
    (convert 22 9 (.slice B b.length d)).run Try.prog w' = .ok (.string (strOfNums b)) w' ∧ Below W.heap.size W w' := ⟨conv_rd (h.keep hb), hb⟩

/-- A row of these bytes. -/
def HeldB (b : List Int) (v : Value) (w : World) : Prop := ∃ A c, v = .slice A b.length c ∧ Rd w A c b
theorem HeldB.keep {b : List Int} {v : Value} {w w' : World} (h : HeldB b v w) (hb : Below w.heap.size w w') : HeldB b v w' := by
  obtain ⟨A, c, rfl, hr⟩ := h
  exact ⟨A, c, rfl, hr.keep hb⟩
theorem HeldB.conv {b : List Int} {v : Value} {w : World} (h : HeldB b v w) : (convert 22 9 v).run Try.prog w = .ok (.string (strOfNums b)) w := by
  obtain ⟨A, c, rfl, hr⟩ := h
  exact conv_rd hr
def prW (b : List Int) (y : Value) : Pair where
  i := 4
  j := 5
  d := 57
  e := 58
  arg := .tmp 56
  y := y
  s := .string (strOfNums b)
  f := 23
  Φ := HeldB b

set_option maxHeartbeats 2000000 in
theorem wall_long (A : Option Addr) (c n : Nat) (B : Option Addr) (d m : Nat) (w : World) (h : 60 < n ∨ 1000 < m) : Calls Try.prog 5 #[.slice A n c, .slice B m d] w fun e w' => e = .returned (.bool true) ∧ Below w.heap.size w w' := by
  rcases Nat.lt_or_ge 60 n with h1 | h1
  · have t1 : decide (60 < (n : Int)) = true := by simp; omega
    clear h
    go_enter Try.func5, Try.ntmps5
    go_wp2_with fail
    refine (awake4_any _).mono ?_
    rintro e w1 ⟨rfl, hw1⟩
    have zw1 := hw1.size
    have bw1 := below_of (w := w) (by go_grown) hw1
    try simp at zw1
    go_wp2
    go_ret
    exact ⟨rfl, bw1⟩
  · have t1 : decide (60 < (n : Int)) = false := by simp; omega
    have t2 : decide (1000 < (m : Int)) = true := by simp; omega
    clear h
    go_enter Try.func5, Try.ntmps5
    go_wp2_with fail
    refine (awake4_any _).mono ?_
    rintro e w1 ⟨rfl, hw1⟩
    have zw1 := hw1.size
    have bw1 := below_of (w := w) (by go_grown) hw1
    try simp at zw1
    go_wp2
    go_ret
    exact ⟨rfl, bw1⟩

set_option maxHeartbeats 8000000 in
theorem wall_short (A : Option Addr) (c : Nat) (rs : List Rt) (B : Option Addr) (d : Nat) (b : List Int) (w : World) (ha : RdR w A rs) (hb : Rd w B d b) (h1 : rs.length ≤ 60) (h2 : b.length ≤ 1000) : Calls Try.prog 5 #[.slice A rs.length c, .slice B b.length d] w fun e w' => e = .returned (.bool true) ∧ Below w.heap.size w w' := by
  have t1 : decide (60 < (rs.length : Int)) = false := by simp; omega
  have t2 : decide (1000 < (b.length : Int)) = false := by simp; omega
  have hbd := hb.2.2.1
  have GP := Lib.hid (gal_put rs)
  have PG := Lib.hid (put_gal _ b (Nat.le_refl _) hbd)
  have l1 := putL_le rs
  have l2 := gal_len _ b (Nat.le_refl _) hbd
  have HA := Lib.hid ha
  have HB := Lib.hid hb
  clear ha hb hbd
  go_enter Try.func5, Try.ntmps5
  go_wp2_with fail
  refine (awake4_any _).mono ?_
  rintro e w1 ⟨rfl, hw1⟩
  have zw1 := hw1.size
  have bw1 := below_of (w := w) (by go_grown) hw1
  try simp at zw1
  clear hw1
  go_wp2_with fail
  go_loopw [6, 7] (fun v i wr => ∃ k : Nat, k ≤ rs.length ∧ i = .int .i64 k ∧ wr.ownsRow w.heap.size 29 5 v ((rs.take k).filter rgood).length (rtv ((rs.take k).filter rgood)) ∧ Below w.heap.size w wr) (fun _ i _ => rs.length - (intOf i).toNat)
  case atStart => exact ⟨0, Nat.zero_le _, rfl, World.ownsRow_nil _ _ _ _, bw1⟩
  case round =>
    obtain ⟨k, hk, rfl, hown, hB⟩ := hrel
    have Hown := Lib.hid hown
    have hz := hB.size
    clear hown
    by_cases hlt : k < rs.length
    · have hlt' : (k : Int) < (rs.length : Int) := by omega
      have hk0 : (0 : Int) ≤ (k : Int) := by omega
      have Htk := Lib.hid (filter_take rs k hlt)
      have hle1 : ((rs.take k).filter rgood).length ≤ 60 := by
        have a1 := List.length_filter_le rgood (rs.take k)
        have a2 : (rs.take k).length ≤ k := List.length_take_le _ _
        omega
      obtain ⟨g, off, rfl, hg, a0, a1, a2, a3, a4⟩ := (HA.out.keep hB).at_ hlt
      generalize rs[k] = r at *
      cases hgd : rgood r
      · have Hgd := Lib.hid hgd
        clear hgd
        go_wp2_with fail
        refine (good_any r _).mono ?_
        rintro e w2 ⟨rfl, hw2⟩
        rw [Hgd.out]
        have bw2 := hB.trans (hw2.mono hz)
        have Ho2 := Lib.hid (own_keep Hown.out hw2)
        clear hw2 a0 a1 a2 a3 a4
        go_wp2_with fail
        refine ⟨⟨k + 1, by omega, by go_num, ?_, bw2⟩, by simp [intOf]; omega⟩
        rw [Htk.out, if_neg (by rw [Hgd.out]; simp), List.append_nil]
        exact Ho2.out
      · have Hgd := Lib.hid hgd
        clear hgd
        go_wp2_with fail
        refine (good_any r _).mono ?_
        rintro e w2 ⟨rfl, hw2⟩
        rw [Hgd.out]
        have bw2 := hB.trans (hw2.mono hz)
        have z2 := bw2.size
        have Ho2 := Lib.hid (own_keep Hown.out hw2)
        have hg2 : g < w2.heap.size := Nat.lt_of_lt_of_le hg hw2.size
        have c0 := (hw2.cell (p := ⟨g, off + k * 5, none⟩) hg).trans a0
        have c1 := (hw2.cell (p := ⟨g, off + k * 5 + 1, none⟩) hg).trans a1
        have c2 := (hw2.cell (p := ⟨g, off + k * 5 + 2, none⟩) hg).trans a2
        have c3 := (hw2.cell (p := ⟨g, off + k * 5 + 3, none⟩) hg).trans a3
        have c4 := (hw2.cell (p := ⟨g, off + k * 5 + 4, none⟩) hg).trans a4
        clear hw2 a0 a1 a2 a3 a4
        go_wp2_with (
          at_builtin
          refine wpList_route rfl (.tmp 34) (.tmp 39) rfl w.heap.size _ ((rs.take k).filter rgood) (by rfl) (Ho2.out.alloc _) w2.heap.size r (by rfl) (heap_alloc_new w2 _) (by omega) (by simp; omega) ?_
          intro v3 w3 ho3 hb3
          have H3 := Lib.hid ho3
          have b3 : Below w.heap.size w w3 := (bw2.alloc z2 _).trans hb3
          clear ho3 hb3
          )
        refine ⟨⟨k + 1, by omega, by go_num, ?_, b3⟩, by simp [intOf]; omega⟩
        rw [Htk.out, if_pos Hgd.out]
        exact H3.out
    · obtain rfl : k = rs.length := by omega
      have hlt' : ¬ (rs.length : Int) < (rs.length : Int) := by omega
      rw [List.take_length] at Hown
      obtain ⟨_, G, cg, rfl, hcg, hrG⟩ := own_rdr Hown.out
      have RG := Lib.hid hrG
      clear Hown hrG
      go_wp2_with fail
      refine (putAll_any A c rs _ (by omega) (HA.out.keep hB)).mono ?_
      rintro e w2 ⟨v2, rfl, ho2, hw2⟩
      obtain ⟨_, C, cc, rfl, hr2⟩ := own_rd ho2 (bd_putL rs)
      have bw2 := hB.trans (hw2.mono hz)
      have RG2 := Lib.hid (RG.out.keep hw2)
      have HC2 := Lib.hid hr2
      clear ho2 hr2 hw2 RG
      go_wp2_with fail
      refine (getAll_any C cc (putL rs) _ HC2.out (by omega)).mono ?_
      rintro e w3 ⟨v3, rfl, ho3, hw3⟩
      rw [GP.out.1]
      rw [GP.out.2] at ho3
      obtain ⟨_, M, cm, rfl, hcm, hr3⟩ := own_rdr ho3
      have bw3 := bw2.trans (hw3.mono bw2.size)
      have RG3 := Lib.hid (RG2.out.keep hw3)
      have RM3 := Lib.hid hr3
      clear ho3 hr3 hw3 RG2 HC2
      have hfl : (rs.filter rgood).length ≤ 60 := Nat.le_trans (List.length_filter_le _ _) h1
      by_cases hE : galE b = 0
      · have P := Lib.hid (PG.out hE)
        have HE := Lib.hid hE
        clear hE PG
        go_wp2_with fail
        refine (getAll_any B d b _ (HB.out.keep bw3) (by omega)).mono ?_
        rintro e w4 ⟨v4, rfl, ho4, hw4⟩
        rw [HE.out]
        obtain ⟨_, K, ck, rfl, hck, hr4⟩ := own_rdr ho4
        have bw4 := bw3.trans (hw4.mono bw3.size)
        have RG4 := Lib.hid (RG3.out.keep hw4)
        have RM4 := Lib.hid (RM3.out.keep hw4)
        have RK4 := Lib.hid hr4
        clear ho4 hr4 hw4 RG3 RM3
        have HBW := Lib.hid (HB.out.keep bw4)
        go_wp2_with fail
        obtain ⟨W, rfl⟩ : ∃ W, W = w4 := ⟨_, rfl⟩
        refine region_mix [prW b (.slice K (galR b).length ck)] W.heap.size (by kernel_rfl) (by kernel_rfl) (by kernel_rfl) (by kernel_rfl) (Nat.le_refl _) ⟨?_, ?_, ?_, ?_, ?_, ?_, ?_, ?_, ?_, ?_⟩ ?_
        · intro p hp o ho
          obtain rfl := List.mem_singleton.1 hp
          simp only [virt, if_pos ho]
        · intro p hp o ho
          obtain rfl := List.mem_singleton.1 hp
          have hne : ¬ o.dst = some (prW b (.slice K (galR b).length ck)).d := by rw [ho]; simp [prW]
          simp only [virt, if_neg hne, if_pos ho]
        · intro p hp q hq _
          rw [List.mem_singleton.1 hp, List.mem_singleton.1 hq]
        · intro p hp q hq
          rw [List.mem_singleton.1 hp, List.mem_singleton.1 hq]
          simp [prW]
        · intro p hp q hq
          rw [List.mem_singleton.1 hp, List.mem_singleton.1 hq]
          simp [prW]
        · intro p hp
          rw [List.mem_singleton.1 hp]
          simp [prW, undef]
        · intro p hp o ho a w
          rw [List.mem_singleton.1 hp] at ho ⊢
          simp [prW] at ho
          subst ho
          simp [prW, go_sem]
        · intro p hp x
          rw [List.mem_singleton.1 hp]
          refine (putAll_any K ck (galR b) x.at (by omega) (RK4.out.keep x.below)).mono ?_
          rintro e w5 ⟨v5, rfl, ho5, hw5⟩
          rw [P.out] at ho5
          obtain ⟨_, Q, cq, rfl, hr5⟩ := own_rd ho5 HBW.out.2.2.1
          exact ⟨_, rfl, ⟨Q, cq, rfl, hr5⟩, hw5⟩
        · intro p hp o ho a w hΦ
          rw [List.mem_singleton.1 hp] at ho hΦ ⊢
          simp [prW] at ho
          subst ho
          have hcv := hΦ.conv
          generalize hval : a.eval (.tmp (prW b (.slice K (galR b).length ck)).d) = val at hcv
          have hval' : a.eval (.tmp 57) = val := hval
          clear hval hΦ
          unfold execOp
          simp only [hval']
          simp [go_sem, hcv, prW]
        · intro p hp v w w' h1 h2
          rw [List.mem_singleton.1 hp] at h1 ⊢
          exact h1.keep h2
        apply Exists.intro
        refine ⟨fun W' hW' => ?_, ?_, ?_⟩
        · have hcv := fun x : Later W'.heap.size W' => conv_rd (HBW.out.keep (hW'.trans (x.below.mono hW'.size)))
          simp only [List.map_cons, List.map_nil, virt, prW, Option.some.injEq, Nat.reduceEqDiff, reduceIte]
          repeat (go_big_quiet_step (fail))
          refine wpQuiet_nil ?_
          exact rfl
        · intro p hp
          rw [List.mem_singleton.1 hp]
          exact ⟨rfl, rfl⟩
        · intro listed r w' R
          obtain ⟨vv, rfl⟩ := R.one
          have hbW := R.below
          clear R
          have bwx := bw4.trans (hbW.mono bw4.size)
          simp only [prW, Act.put, List.setIfInBounds_toArray, List.set_cons_succ, List.set_cons_zero]
          go_wp2_with fail
          refine (same_yes M G cm cg (rs.filter rgood) _ (by omega) (RM4.out.keep hbW) (RG4.out.keep hbW)).mono ?_
          rintro e w9 ⟨rfl, hw9⟩
          have bw9 := bwx.trans (hw9.mono bwx.size)
          clear hw9
          go_wp2
          go_ret
          exact ⟨rfl, bw9⟩
      · have t3 : (galE b == 0) = false := by simp [hE]
        have t4 : (galE b != 0) = true := by simp [hE]
        have HK := Lib.hid (gal_err hE)
        clear hE PG
        go_wp2_with fail
        refine (getAll_any B d b _ (HB.out.keep bw3) (by omega)).mono ?_
        rintro e w4 ⟨v4, rfl, ho4, hw4⟩
        rw [HK.out] at ho4
        obtain ⟨_, K, ck, rfl, hck, hr4⟩ := own_rdr ho4
        have bw4 := bw3.trans (hw4.mono bw3.size)
        have RG4 := Lib.hid (RG3.out.keep hw4)
        have RM4 := Lib.hid (RM3.out.keep hw4)
        clear ho4 hr4 hw4 RG3 RM3
        go_wp2_with fail
        obtain ⟨W, rfl⟩ : ∃ W, W = w4 := ⟨_, rfl⟩
        refine region_later W.heap.size (by kernel_rfl) (by kernel_rfl) ?_
        repeat (go_big_quiet_step (fail))
        refine wpQuiet_nil ?_
        intro x
        have hbW := x.below
        generalize x.at = w' at *
        clear x
        have bwx := bw4.trans (hbW.mono bw4.size)
        go_wp2_with fail
        refine (same_yes M G cm cg (rs.filter rgood) _ (by omega) (RM4.out.keep hbW) (RG4.out.keep hbW)).mono ?_
        rintro e w9 ⟨rfl, hw9⟩
        have bw9 := bwx.trans (hw9.mono bwx.size)
        clear hw9
        go_wp2
        go_ret
        exact ⟨rfl, bw9⟩
theorem wall_law (A : Option Addr) (c : Nat) (rs : List Rt) (B : Option Addr) (d : Nat) (b : List Int) (w : World) (ha : RdR w A rs) (hb : Rd w B d b) : Calls Try.prog 5 #[.slice A rs.length c, .slice B b.length d] w fun e w' => e = .returned (.bool true) ∧ Below w.heap.size w w' := by
  by_cases h : 60 < rs.length ∨ 1000 < b.length
  · exact wall_long A c _ B d _ w h
  · exact wall_short A c rs B d b w ha hb (by omega) (by omega)

end Go.Proofs.Ytibhabglmkgaaaa
