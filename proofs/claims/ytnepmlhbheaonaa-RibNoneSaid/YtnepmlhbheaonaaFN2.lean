/-
  RibNone returns true, and leaves all old memory as it was: some of its ways. Condition: as each says.
-/
import Derived.Test.YtnepmlhbheaonaaFN0
import Derived.Test.YtnepmlhbheaonaaF1
import Derived.Test.YtnepmlhbheaonaaR1
namespace Go.Proofs.Ytnepmlhbheaonaa
open Go.RowKit Go.Maps
set_option maxRecDepth 100000

set_option maxHeartbeats 8000000 in
theorem none_c3 (p : Pf) (k : Int) (a : Ad) (w : World) (hp : psane p = false) (h1 : 0 ≤ k ∧ k ≤ 65535) :
    Calls Try.prog 3 #[.agg #[.int .u64 (u p.a.hi), .int .u64 (u p.a.lo), .bool p.a.v6, .int .i64 p.n], .int .i64 k, .agg #[.int .u64 (u a.hi), .int .u64 (u a.lo), .bool a.v6]] w fun e w' => e = .returned (.bool true) ∧ Below w.heap.size w w' := by
  have hs' : (!psane p) = true := by simp [hp]
  have e1 : addU p k = 1 := by unfold addU; rw [hp]; rfl
  have e2 : (if psane p = true then (2 : Int) else 1) = 1 := by rw [hp]; rfl
  have t1 : decide (k < 0) = false := decide_eq_false (by omega)
  have t2 : decide (65535 < k) = false := decide_eq_false (by omega)
  clear hp
  go_enter Try.func3, Try.ntmps3
  go_wp2_with fail
  refine (awake6_any _).mono ?_
  rintro e w1 ⟨rfl, hw1⟩
  have b1 : Below w.heap.size w w1 := below_of (by go_grown) hw1
  have hP1 : PBox w1 w.heap.size p := PBox.keep (by exact ⟨by go_simp <;> rfl, by go_simp <;> rfl, by go_simp <;> rfl, by go_simp <;> rfl, by go_simp <;> rfl, by go_simp <;> rfl, by go_simp <;> rfl, by go_simp <;> rfl, by go_size⟩) hw1
  have hA1 : ABox w1 (w.heap.size + 1) a := ABox.keep ⟨by go_simp <;> rfl, by go_simp <;> rfl, by go_simp <;> rfl, by go_size⟩ hw1
  have HP1 := Lib.hid hP1
  have HA1 := Lib.hid hA1
  clear hw1 hP1 hA1
  go_upto_region 4 with fail
  have hBW : Below w1.heap.size w1 (w1.alloc (.cells #[.pointer none, .map none, .int .i64 0, .int .i64 0] 32)) := by go_grown
  have hn0 : (w1.alloc (.cells #[.pointer none, .map none, .int .i64 0, .int .i64 0] 32)).cell? ⟨w1.heap.size, 0, none⟩ = some (.pointer none) := by go_simp <;> rfl
  have hn1 : (w1.alloc (.cells #[.pointer none, .map none, .int .i64 0, .int .i64 0] 32)).cell? ⟨w1.heap.size, 1, none⟩ = some (.map none) := by go_simp <;> rfl
  have hn2 : (w1.alloc (.cells #[.pointer none, .map none, .int .i64 0, .int .i64 0] 32)).cell? ⟨w1.heap.size, 2, none⟩ = some (.int .i64 0) := by go_simp <;> rfl
  have hn3 : (w1.alloc (.cells #[.pointer none, .map none, .int .i64 0, .int .i64 0] 32)).cell? ⟨w1.heap.size, 3, none⟩ = some (.int .i64 0) := by go_simp <;> rfl
  have hnz : w1.heap.size < (w1.alloc (.cells #[.pointer none, .map none, .int .i64 0, .int .i64 0] 32)).heap.size := by go_size
  generalize hWW : World.alloc w1 _ = W5 at hBW hn0 hn1 hn2 hn3 hnz ⊢
  have HP5 := Lib.hid (HP1.out.keep hBW)
  have HA5 := Lib.hid (HA1.out.keep hBW)
  have b5 := b1.trans (hBW.mono b1.size)
  have HN5 : Hid (NoRib W5 (.pointer (some ⟨w1.heap.size, 0, none⟩))) := Lib.hid (.inr ⟨_, rfl, hnz, hn0, hn1, hn2, hn3⟩)
  clear hWW hBW hn0 hn1 hn2 hn3 hnz HP1 HA1 b1
  obtain ⟨pa, pb, pc, pd, -⟩ := id HP5.out
  go_wp2_with fail
  refine (rpsane_any p _).mono ?_
  rintro e w6 ⟨rfl, hb6⟩
  have HP6 := Lib.hid (HP5.out.keep hb6)
  have HA6 := Lib.hid (HA5.out.keep hb6)
  have HN6 := Lib.hid (HN5.out.keep hb6 (Nat.le_refl _))
  have b6 := b5.trans (hb6.mono b5.size)
  clear hb6 HP5 HA5 HN5 pa pb pc pd b5
  go_upto_region 13 with fail
  have hBs : Below w6.heap.size w6 (w6.alloc (.cells #[.pointer none, .pointer (some ⟨w1.heap.size, 0, none⟩)] 28)) := by go_grown
  have hg0 : (w6.alloc (.cells #[.pointer none, .pointer (some ⟨w1.heap.size, 0, none⟩)] 28)).cell? ⟨w6.heap.size, 0, none⟩ = some (.pointer none) := by go_simp <;> rfl
  have hg1 : (w6.alloc (.cells #[.pointer none, .pointer (some ⟨w1.heap.size, 0, none⟩)] 28)).cell? ⟨w6.heap.size, 1, none⟩ = some (.pointer (some ⟨w1.heap.size, 0, none⟩)) := by go_simp <;> rfl
  have hgz : w6.heap.size < (w6.alloc (.cells #[.pointer none, .pointer (some ⟨w1.heap.size, 0, none⟩)] 28)).heap.size := by go_size
  generalize hWS : World.alloc w6 _ = ws at hBs hg0 hg1 hgz ⊢
  have HPS := Lib.hid (HP6.out.keep hBs)
  have HAS := Lib.hid (HA6.out.keep hBs)
  have HNS := Lib.hid (HN6.out.keep hBs (Nat.le_refl _))
  have bS := b6.trans (hBs.mono b6.size)
  have HGS : Hid (∀ j : Nat, j < 2 → ∃ rv, ws.cell? ⟨w6.heap.size, j, none⟩ = some rv ∧ NoRib ws rv) := Lib.hid (fun j hj => by
    have : j = 0 ∨ j = 1 := by omega
    rcases this with rfl | rfl
    · exact ⟨_, hg0, .inl rfl⟩
    · exact ⟨_, hg1, HNS.out⟩)
  have cA : ∀ (W : World) (rv : Value), NoRib W rv → Calls Try.prog 18 #[rv, .agg #[.int .u64 (u p.a.hi), .int .u64 (u p.a.lo), .bool p.a.v6, .int .i64 p.n], .int .i64 k] W fun e w' => e = .returned (.int .i64 1) ∧ Below W.heap.size W w' := fun W rv hn => by
    have := radd_un hn p k
    rw [e1] at this
    exact this
  have cD : ∀ (W : World) (rv : Value), NoRib W rv → Calls Try.prog 19 #[rv, .agg #[.int .u64 (u p.a.hi), .int .u64 (u p.a.lo), .bool p.a.v6, .int .i64 p.n]] W fun e w' => e = .returned (.int .i64 1) ∧ Below W.heap.size W w' := fun W rv hn => by
    have := rwithdraw_un hn p
    rw [e2] at this
    exact this
  have CA := Lib.hid cA
  have CD := Lib.hid cD
  clear hWS hBs HP6 HA6 HN6 b6 cA cD hg0 hg1
  go_loopw [13] (fun i wr => ∃ j : Nat, j ≤ 2 ∧ i = .int .i64 j ∧ Below ws.heap.size ws wr) (fun i _ => 2 - (RowKit.intOf i).toNat)
  case atStart => exact ⟨0, Nat.zero_le _, rfl, Below.refl _ _⟩
  case round =>
    obtain ⟨j, hj, rfl, hB⟩ := hrel
    by_cases hj2 : j < 2
    · obtain ⟨rv, hcv, hnv⟩ := HGS.out j hj2
      have gz : w6.heap.size < wr.heap.size := Nat.lt_of_lt_of_le hgz hB.size
      have cq := (hB.cell (p := ⟨w6.heap.size, j, none⟩) hgz).trans hcv
      have HN := Lib.hid (hnv.keep hB (Nat.le_refl _))
      obtain ⟨pa, pb, pc, pd, -, -, -, -, pz⟩ := id (HPS.out.keep hB)
      obtain ⟨qa, qb, qc, qz⟩ := id (HAS.out.keep hB)
      have ji : (j : Int) < 2 := by omega
      clear hcv hnv
      go_upto_region 15 with fail
      obtain ⟨W, rfl⟩ : ∃ W, W = wr := ⟨_, rfl⟩
      go_cut [15] (fun s wx => s = .bool false ∧ Below W.heap.size W wx)
      case first =>
        go_region_held3 (fun w' => w'.cell? ⟨w6.heap.size, j, none⟩ = some rv ∧ w'.cell? ⟨w.heap.size + 1, 0, none⟩ = some (.int .u64 (u a.hi)) ∧ w'.cell? ⟨w.heap.size + 1, 1, none⟩ = some (.int .u64 (u a.lo)) ∧ w'.cell? ⟨w.heap.size + 1, 2, none⟩ = some (.bool a.v6) ∧ Below W.heap.size W w')
          (first | exact keepV hk5 gz qz cq qa qb qc | (refine keepV ?_ gz qz cq qa qb qc; go_grown)) ((go_at_call 15; refine (rlongest_un (HN.out.keep (B := W.heap.size) (by go_grown) (Nat.le_refl _)) a).mono ?_; rintro e w5 ⟨rfl, hw5⟩; have hk5 := below_of (w := W) (by go_grown) hw5; have zk5 := hk5.size; (try (refine y5_then (b := W.heap.size) (c0 := .int .u64 0) (c1 := .int .u64 0) (c2 := .bool false) (c3 := .int .i64 0) (c4 := .int .i64 0) hw5 ?_ ?_ ?_ ?_ ?_ ?_ ?_ ?_ ?_ ?_ ?_ (fun y4 => ?_); go_size; go_simp; go_simp; go_simp; go_simp; go_simp; go_simp; go_simp; go_simp; go_simp; go_simp; obtain ⟨ya, yb, yc, yg, yi, yd, ye, yf, yh, yj, yz⟩ := y4))))
        all_goals (go_wp2_with fail; go_meet)
        all_goals exact ⟨rfl, by go_grown⟩
      case rest =>
        obtain ⟨rfl, hb5⟩ := hcut
        obtain ⟨W4, rfl⟩ : ∃ W4, W4 = wc := ⟨_, rfl⟩
        have b4 : Below ws.heap.size ws W4 := hB.trans (hb5.mono hB.size)
        have HN4 := Lib.hid (HN.out.keep hb5 (Nat.le_refl _))
        have gz4 := Nat.lt_of_lt_of_le gz hb5.size
        have pz4 := Nat.lt_of_lt_of_le pz hb5.size
        have cq4 := (hb5.cell gz).trans cq
        have pa4 := (hb5.cell pz).trans pa
        have pb4 := (hb5.cell pz).trans pb
        have pc4 := (hb5.cell pz).trans pc
        have pd4 := (hb5.cell pz).trans pd
        clear hb5 HN gz pz qz cq pa pb pc pd qa qb qc hB
        go_upto_region 16 with fail
        obtain ⟨W, rfl⟩ : ∃ W, W = W4 := ⟨_, rfl⟩
        go_cut [17] (fun s wx => s = .bool false ∧ Below W.heap.size W wx)
        case first =>
          go_region_held3 (fun w' => w'.cell? ⟨w6.heap.size, j, none⟩ = some rv ∧ w'.cell? ⟨w.heap.size, 0, none⟩ = some (.int .u64 (u p.a.hi)) ∧ w'.cell? ⟨w.heap.size, 1, none⟩ = some (.int .u64 (u p.a.lo)) ∧ w'.cell? ⟨w.heap.size, 2, none⟩ = some (.bool p.a.v6) ∧ w'.cell? ⟨w.heap.size, 3, none⟩ = some (.int .i64 p.n) ∧ Below W.heap.size W w')
            (first | exact keepV4 hk5 gz4 pz4 cq4 pa4 pb4 pc4 pd4 | (refine keepV4 ?_ gz4 pz4 cq4 pa4 pb4 pc4 pd4; go_grown)) ((go_at_call 16; refine (rgoverns_un (HN4.out.keep (B := W.heap.size) (by go_grown) (Nat.le_refl _)) p).mono ?_; rintro e w5 ⟨rfl, hw5⟩; have hk5 := below_of (w := W) (by go_grown) hw5; have zk5 := hk5.size; (try (refine y5_then (b := W.heap.size) (c0 := .int .u64 0) (c1 := .int .u64 0) (c2 := .bool false) (c3 := .int .i64 0) (c4 := .int .i64 0) hw5 ?_ ?_ ?_ ?_ ?_ ?_ ?_ ?_ ?_ ?_ ?_ (fun y4 => ?_); go_size; go_simp; go_simp; go_simp; go_simp; go_simp; go_simp; go_simp; go_simp; go_simp; go_simp; obtain ⟨ya, yb, yc, yg, yi, yd, ye, yf, yh, yj, yz⟩ := y4))))
          all_goals (go_wp2_with fail; go_meet)
          all_goals exact ⟨rfl, by go_grown⟩
        case rest =>
          obtain ⟨rfl, hb5⟩ := hcut
          obtain ⟨W6, rfl⟩ : ∃ W6, W6 = wc := ⟨_, rfl⟩
          have b5 : Below ws.heap.size ws W6 := b4.trans (hb5.mono b4.size)
          have HN5 := Lib.hid (HN4.out.keep hb5 (Nat.le_refl _))
          have gz5 := Nat.lt_of_lt_of_le gz4 hb5.size
          have pz5 := Nat.lt_of_lt_of_le pz4 hb5.size
          have cq5 := (hb5.cell gz4).trans cq4
          have pa5 := (hb5.cell pz4).trans pa4
          have pb5 := (hb5.cell pz4).trans pb4
          have pc5 := (hb5.cell pz4).trans pc4
          have pd5 := (hb5.cell pz4).trans pd4
          clear hb5 HN4 gz4 pz4 cq4 pa4 pb4 pc4 pd4 b4
          go_wp2_with fail
          refine (rsize_un HN5.out).mono ?_
          rintro e W7 ⟨rfl, hb7⟩
          have b7 : Below ws.heap.size ws W7 := b5.trans (hb7.mono b5.size)
          have HN7 := Lib.hid (HN5.out.keep hb7 (Nat.le_refl _))
          have gz := Nat.lt_of_lt_of_le gz5 hb7.size
          have pz := Nat.lt_of_lt_of_le pz5 hb7.size
          have cq := (hb7.cell gz5).trans cq5
          have pa := (hb7.cell pz5).trans pa5
          have pb := (hb7.cell pz5).trans pb5
          have pc := (hb7.cell pz5).trans pc5
          have pd := (hb7.cell pz5).trans pd5
          clear hb7 HN5 gz5 pz5 cq5 pa5 pb5 pc5 pd5 b5
          obtain ⟨W, rfl⟩ : ∃ W, W = W7 := ⟨_, rfl⟩
          have Lq := fun x : Later W.heap.size W => (x.cell gz).trans cq
          have La := fun x : Later W.heap.size W => (x.cell pz).trans pa
          have Lb := fun x : Later W.heap.size W => (x.cell pz).trans pb
          have Lc := fun x : Later W.heap.size W => (x.cell pz).trans pc
          have Ld := fun x : Later W.heap.size W => (x.cell pz).trans pd
          go_wp2_with fail
          try simp only [List.append_eq, List.cons_append, List.nil_append]
          refine region_later W.heap.size (by kernel_rfl) (by kernel_rfl) ?_
          repeat (go_big_quiet_step (first
            | (go_at_call 18; exact later_of (Nat.le_refl _) (CA.out _ _ (HN7.out.keep (Later.below _) (Nat.le_refl _))))
            | (go_at_call 19; exact later_of (Nat.le_refl _) (CD.out _ _ (HN7.out.keep (Later.below _) (Nat.le_refl _))))
            | (go_at_call 20; exact later_of (Nat.le_refl _) (rinside_un (HN7.out.keep (Later.below _) (Nat.le_refl _)) p))
            | (go_at_call 21; exact later_of (Nat.le_refl _) (rdump_un (HN7.out.keep (Later.below _) (Nat.le_refl _))))
            | (go_at_call 22; exact later_of (Nat.le_refl _) (rhops_un (HN7.out.keep (Later.below _) (Nat.le_refl _))))))
          refine wpQuiet_nil ?_
          intro x
          have hx := x.below
          generalize x.at = W8 at hx ⊢
          clear x Lq La Lb Lc Ld ji
          go_wp2
          go_roundw
          case rel => exact ⟨j + 1, by omega, by go_num, b7.trans (hx.mono b7.size)⟩
          case measure => simp [RowKit.intOf]; omega
    · have tj : decide ((j : Int) < 2) = false := decide_eq_false (by omega)
      go_wp2
      go_ret
      exact ⟨rfl, bS.trans (hB.mono bS.size)⟩

set_option maxHeartbeats 8000000 in
theorem none_c4 (p : Pf) (k : Int) (a : Ad) (w : World) (hp : psane p = true) (h1 : k < 0) :
    Calls Try.prog 3 #[.agg #[.int .u64 (u p.a.hi), .int .u64 (u p.a.lo), .bool p.a.v6, .int .i64 p.n], .int .i64 k, .agg #[.int .u64 (u a.hi), .int .u64 (u a.lo), .bool a.v6]] w fun e w' => e = .returned (.bool true) ∧ Below w.heap.size w w' := by
  have hs' : (!psane p) = false := by simp [hp]
  have e1 : addU p k = 4 := by unfold addU; rw [if_pos hp, if_neg (by omega)]
  have e2 : (if psane p = true then (2 : Int) else 1) = 2 := by rw [if_pos hp]
  have t1 : decide (k < 0) = true := decide_eq_true h1
  clear hp
  go_enter Try.func3, Try.ntmps3
  go_wp2_with fail
  refine (awake6_any _).mono ?_
  rintro e w1 ⟨rfl, hw1⟩
  have b1 : Below w.heap.size w w1 := below_of (by go_grown) hw1
  have hP1 : PBox w1 w.heap.size p := PBox.keep (by exact ⟨by go_simp <;> rfl, by go_simp <;> rfl, by go_simp <;> rfl, by go_simp <;> rfl, by go_simp <;> rfl, by go_simp <;> rfl, by go_simp <;> rfl, by go_simp <;> rfl, by go_size⟩) hw1
  have hA1 : ABox w1 (w.heap.size + 1) a := ABox.keep ⟨by go_simp <;> rfl, by go_simp <;> rfl, by go_simp <;> rfl, by go_size⟩ hw1
  have HP1 := Lib.hid hP1
  have HA1 := Lib.hid hA1
  clear hw1 hP1 hA1
  go_upto_region 4 with fail
  have hBW : Below w1.heap.size w1 (w1.alloc (.cells #[.pointer none, .map none, .int .i64 0, .int .i64 0] 32)) := by go_grown
  have hn0 : (w1.alloc (.cells #[.pointer none, .map none, .int .i64 0, .int .i64 0] 32)).cell? ⟨w1.heap.size, 0, none⟩ = some (.pointer none) := by go_simp <;> rfl
  have hn1 : (w1.alloc (.cells #[.pointer none, .map none, .int .i64 0, .int .i64 0] 32)).cell? ⟨w1.heap.size, 1, none⟩ = some (.map none) := by go_simp <;> rfl
  have hn2 : (w1.alloc (.cells #[.pointer none, .map none, .int .i64 0, .int .i64 0] 32)).cell? ⟨w1.heap.size, 2, none⟩ = some (.int .i64 0) := by go_simp <;> rfl
  have hn3 : (w1.alloc (.cells #[.pointer none, .map none, .int .i64 0, .int .i64 0] 32)).cell? ⟨w1.heap.size, 3, none⟩ = some (.int .i64 0) := by go_simp <;> rfl
  have hnz : w1.heap.size < (w1.alloc (.cells #[.pointer none, .map none, .int .i64 0, .int .i64 0] 32)).heap.size := by go_size
  generalize hWW : World.alloc w1 _ = W5 at hBW hn0 hn1 hn2 hn3 hnz ⊢
  have HP5 := Lib.hid (HP1.out.keep hBW)
  have HA5 := Lib.hid (HA1.out.keep hBW)
  have b5 := b1.trans (hBW.mono b1.size)
  have HN5 : Hid (NoRib W5 (.pointer (some ⟨w1.heap.size, 0, none⟩))) := Lib.hid (.inr ⟨_, rfl, hnz, hn0, hn1, hn2, hn3⟩)
  clear hWW hBW hn0 hn1 hn2 hn3 hnz HP1 HA1 b1
  obtain ⟨pa, pb, pc, pd, -⟩ := id HP5.out
  go_wp2_with fail
  refine (rpsane_any p _).mono ?_
  rintro e w6 ⟨rfl, hb6⟩
  have HP6 := Lib.hid (HP5.out.keep hb6)
  have HA6 := Lib.hid (HA5.out.keep hb6)
  have HN6 := Lib.hid (HN5.out.keep hb6 (Nat.le_refl _))
  have b6 := b5.trans (hb6.mono b5.size)
  clear hb6 HP5 HA5 HN5 pa pb pc pd b5
  go_upto_region 13 with fail
  have hBs : Below w6.heap.size w6 (w6.alloc (.cells #[.pointer none, .pointer (some ⟨w1.heap.size, 0, none⟩)] 28)) := by go_grown
  have hg0 : (w6.alloc (.cells #[.pointer none, .pointer (some ⟨w1.heap.size, 0, none⟩)] 28)).cell? ⟨w6.heap.size, 0, none⟩ = some (.pointer none) := by go_simp <;> rfl
  have hg1 : (w6.alloc (.cells #[.pointer none, .pointer (some ⟨w1.heap.size, 0, none⟩)] 28)).cell? ⟨w6.heap.size, 1, none⟩ = some (.pointer (some ⟨w1.heap.size, 0, none⟩)) := by go_simp <;> rfl
  have hgz : w6.heap.size < (w6.alloc (.cells #[.pointer none, .pointer (some ⟨w1.heap.size, 0, none⟩)] 28)).heap.size := by go_size
  generalize hWS : World.alloc w6 _ = ws at hBs hg0 hg1 hgz ⊢
  have HPS := Lib.hid (HP6.out.keep hBs)
  have HAS := Lib.hid (HA6.out.keep hBs)
  have HNS := Lib.hid (HN6.out.keep hBs (Nat.le_refl _))
  have bS := b6.trans (hBs.mono b6.size)
  have HGS : Hid (∀ j : Nat, j < 2 → ∃ rv, ws.cell? ⟨w6.heap.size, j, none⟩ = some rv ∧ NoRib ws rv) := Lib.hid (fun j hj => by
    have : j = 0 ∨ j = 1 := by omega
    rcases this with rfl | rfl
    · exact ⟨_, hg0, .inl rfl⟩
    · exact ⟨_, hg1, HNS.out⟩)
  have cA : ∀ (W : World) (rv : Value), NoRib W rv → Calls Try.prog 18 #[rv, .agg #[.int .u64 (u p.a.hi), .int .u64 (u p.a.lo), .bool p.a.v6, .int .i64 p.n], .int .i64 k] W fun e w' => e = .returned (.int .i64 4) ∧ Below W.heap.size W w' := fun W rv hn => by
    have := radd_un hn p k
    rw [e1] at this
    exact this
  have cD : ∀ (W : World) (rv : Value), NoRib W rv → Calls Try.prog 19 #[rv, .agg #[.int .u64 (u p.a.hi), .int .u64 (u p.a.lo), .bool p.a.v6, .int .i64 p.n]] W fun e w' => e = .returned (.int .i64 2) ∧ Below W.heap.size W w' := fun W rv hn => by
    have := rwithdraw_un hn p
    rw [e2] at this
    exact this
  have CA := Lib.hid cA
  have CD := Lib.hid cD
  clear hWS hBs HP6 HA6 HN6 b6 cA cD hg0 hg1
  go_loopw [13] (fun i wr => ∃ j : Nat, j ≤ 2 ∧ i = .int .i64 j ∧ Below ws.heap.size ws wr) (fun i _ => 2 - (RowKit.intOf i).toNat)
  case atStart => exact ⟨0, Nat.zero_le _, rfl, Below.refl _ _⟩
  case round =>
    obtain ⟨j, hj, rfl, hB⟩ := hrel
    by_cases hj2 : j < 2
    · obtain ⟨rv, hcv, hnv⟩ := HGS.out j hj2
      have gz : w6.heap.size < wr.heap.size := Nat.lt_of_lt_of_le hgz hB.size
      have cq := (hB.cell (p := ⟨w6.heap.size, j, none⟩) hgz).trans hcv
      have HN := Lib.hid (hnv.keep hB (Nat.le_refl _))
      obtain ⟨pa, pb, pc, pd, -, -, -, -, pz⟩ := id (HPS.out.keep hB)
      obtain ⟨qa, qb, qc, qz⟩ := id (HAS.out.keep hB)
      have ji : (j : Int) < 2 := by omega
      clear hcv hnv
      go_upto_region 15 with fail
      obtain ⟨W, rfl⟩ : ∃ W, W = wr := ⟨_, rfl⟩
      go_cut [15] (fun s wx => s = .bool false ∧ Below W.heap.size W wx)
      case first =>
        go_region_held3 (fun w' => w'.cell? ⟨w6.heap.size, j, none⟩ = some rv ∧ w'.cell? ⟨w.heap.size + 1, 0, none⟩ = some (.int .u64 (u a.hi)) ∧ w'.cell? ⟨w.heap.size + 1, 1, none⟩ = some (.int .u64 (u a.lo)) ∧ w'.cell? ⟨w.heap.size + 1, 2, none⟩ = some (.bool a.v6) ∧ Below W.heap.size W w')
          (first | exact keepV hk5 gz qz cq qa qb qc | (refine keepV ?_ gz qz cq qa qb qc; go_grown)) ((go_at_call 15; refine (rlongest_un (HN.out.keep (B := W.heap.size) (by go_grown) (Nat.le_refl _)) a).mono ?_; rintro e w5 ⟨rfl, hw5⟩; have hk5 := below_of (w := W) (by go_grown) hw5; have zk5 := hk5.size; (try (refine y5_then (b := W.heap.size) (c0 := .int .u64 0) (c1 := .int .u64 0) (c2 := .bool false) (c3 := .int .i64 0) (c4 := .int .i64 0) hw5 ?_ ?_ ?_ ?_ ?_ ?_ ?_ ?_ ?_ ?_ ?_ (fun y4 => ?_); go_size; go_simp; go_simp; go_simp; go_simp; go_simp; go_simp; go_simp; go_simp; go_simp; go_simp; obtain ⟨ya, yb, yc, yg, yi, yd, ye, yf, yh, yj, yz⟩ := y4))))
        all_goals (go_wp2_with fail; go_meet)
        all_goals exact ⟨rfl, by go_grown⟩
      case rest =>
        obtain ⟨rfl, hb5⟩ := hcut
        obtain ⟨W4, rfl⟩ : ∃ W4, W4 = wc := ⟨_, rfl⟩
        have b4 : Below ws.heap.size ws W4 := hB.trans (hb5.mono hB.size)
        have HN4 := Lib.hid (HN.out.keep hb5 (Nat.le_refl _))
        have gz4 := Nat.lt_of_lt_of_le gz hb5.size
        have pz4 := Nat.lt_of_lt_of_le pz hb5.size
        have cq4 := (hb5.cell gz).trans cq
        have pa4 := (hb5.cell pz).trans pa
        have pb4 := (hb5.cell pz).trans pb
        have pc4 := (hb5.cell pz).trans pc
        have pd4 := (hb5.cell pz).trans pd
        clear hb5 HN gz pz qz cq pa pb pc pd qa qb qc hB
        go_upto_region 16 with fail
        obtain ⟨W, rfl⟩ : ∃ W, W = W4 := ⟨_, rfl⟩
        go_cut [17] (fun s wx => s = .bool false ∧ Below W.heap.size W wx)
        case first =>
          go_region_held3 (fun w' => w'.cell? ⟨w6.heap.size, j, none⟩ = some rv ∧ w'.cell? ⟨w.heap.size, 0, none⟩ = some (.int .u64 (u p.a.hi)) ∧ w'.cell? ⟨w.heap.size, 1, none⟩ = some (.int .u64 (u p.a.lo)) ∧ w'.cell? ⟨w.heap.size, 2, none⟩ = some (.bool p.a.v6) ∧ w'.cell? ⟨w.heap.size, 3, none⟩ = some (.int .i64 p.n) ∧ Below W.heap.size W w')
            (first | exact keepV4 hk5 gz4 pz4 cq4 pa4 pb4 pc4 pd4 | (refine keepV4 ?_ gz4 pz4 cq4 pa4 pb4 pc4 pd4; go_grown)) ((go_at_call 16; refine (rgoverns_un (HN4.out.keep (B := W.heap.size) (by go_grown) (Nat.le_refl _)) p).mono ?_; rintro e w5 ⟨rfl, hw5⟩; have hk5 := below_of (w := W) (by go_grown) hw5; have zk5 := hk5.size; (try (refine y5_then (b := W.heap.size) (c0 := .int .u64 0) (c1 := .int .u64 0) (c2 := .bool false) (c3 := .int .i64 0) (c4 := .int .i64 0) hw5 ?_ ?_ ?_ ?_ ?_ ?_ ?_ ?_ ?_ ?_ ?_ (fun y4 => ?_); go_size; go_simp; go_simp; go_simp; go_simp; go_simp; go_simp; go_simp; go_simp; go_simp; go_simp; obtain ⟨ya, yb, yc, yg, yi, yd, ye, yf, yh, yj, yz⟩ := y4))))
          all_goals (go_wp2_with fail; go_meet)
          all_goals exact ⟨rfl, by go_grown⟩
        case rest =>
          obtain ⟨rfl, hb5⟩ := hcut
          obtain ⟨W6, rfl⟩ : ∃ W6, W6 = wc := ⟨_, rfl⟩
          have b5 : Below ws.heap.size ws W6 := b4.trans (hb5.mono b4.size)
          have HN5 := Lib.hid (HN4.out.keep hb5 (Nat.le_refl _))
          have gz5 := Nat.lt_of_lt_of_le gz4 hb5.size
          have pz5 := Nat.lt_of_lt_of_le pz4 hb5.size
          have cq5 := (hb5.cell gz4).trans cq4
          have pa5 := (hb5.cell pz4).trans pa4
          have pb5 := (hb5.cell pz4).trans pb4
          have pc5 := (hb5.cell pz4).trans pc4
          have pd5 := (hb5.cell pz4).trans pd4
          clear hb5 HN4 gz4 pz4 cq4 pa4 pb4 pc4 pd4 b4
          go_wp2_with fail
          refine (rsize_un HN5.out).mono ?_
          rintro e W7 ⟨rfl, hb7⟩
          have b7 : Below ws.heap.size ws W7 := b5.trans (hb7.mono b5.size)
          have HN7 := Lib.hid (HN5.out.keep hb7 (Nat.le_refl _))
          have gz := Nat.lt_of_lt_of_le gz5 hb7.size
          have pz := Nat.lt_of_lt_of_le pz5 hb7.size
          have cq := (hb7.cell gz5).trans cq5
          have pa := (hb7.cell pz5).trans pa5
          have pb := (hb7.cell pz5).trans pb5
          have pc := (hb7.cell pz5).trans pc5
          have pd := (hb7.cell pz5).trans pd5
          clear hb7 HN5 gz5 pz5 cq5 pa5 pb5 pc5 pd5 b5
          obtain ⟨W, rfl⟩ : ∃ W, W = W7 := ⟨_, rfl⟩
          have Lq := fun x : Later W.heap.size W => (x.cell gz).trans cq
          have La := fun x : Later W.heap.size W => (x.cell pz).trans pa
          have Lb := fun x : Later W.heap.size W => (x.cell pz).trans pb
          have Lc := fun x : Later W.heap.size W => (x.cell pz).trans pc
          have Ld := fun x : Later W.heap.size W => (x.cell pz).trans pd
          go_wp2_with fail
          try simp only [List.append_eq, List.cons_append, List.nil_append]
          refine region_later W.heap.size (by kernel_rfl) (by kernel_rfl) ?_
          repeat (go_big_quiet_step (first
            | (go_at_call 18; exact later_of (Nat.le_refl _) (CA.out _ _ (HN7.out.keep (Later.below _) (Nat.le_refl _))))
            | (go_at_call 19; exact later_of (Nat.le_refl _) (CD.out _ _ (HN7.out.keep (Later.below _) (Nat.le_refl _))))
            | (go_at_call 20; exact later_of (Nat.le_refl _) (rinside_un (HN7.out.keep (Later.below _) (Nat.le_refl _)) p))
            | (go_at_call 21; exact later_of (Nat.le_refl _) (rdump_un (HN7.out.keep (Later.below _) (Nat.le_refl _))))
            | (go_at_call 22; exact later_of (Nat.le_refl _) (rhops_un (HN7.out.keep (Later.below _) (Nat.le_refl _))))))
          refine wpQuiet_nil ?_
          intro x
          have hx := x.below
          generalize x.at = W8 at hx ⊢
          clear x Lq La Lb Lc Ld ji
          go_wp2
          go_roundw
          case rel => exact ⟨j + 1, by omega, by go_num, b7.trans (hx.mono b7.size)⟩
          case measure => simp [RowKit.intOf]; omega
    · have tj : decide ((j : Int) < 2) = false := decide_eq_false (by omega)
      go_wp2
      go_ret
      exact ⟨rfl, bS.trans (hB.mono bS.size)⟩

end Go.Proofs.Ytnepmlhbheaonaa
