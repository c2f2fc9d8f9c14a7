/-
  What an address finds among a block's pieces, and among them squeezed. No condition.
-/
import Derived.Test.YthdnpilkkegniaaC1
import Derived.Test.YthdnpilkkegniaaPh
import Derived.Laws.CopyOwn
import Derived.Lib.SliceRun
import Derived.ScopeJumps
import Derived.WalkMore
import Derived.Test.YthdnpilkkegniaaReg
namespace Go.Proofs.Ythdnpilkkegniaa
open Go.RowKit Go.Maps
set_option maxRecDepth 100000

def nilPc : Pc := ⟨nilP, 0, false⟩
def pairP (x y : Pc) : Bool := decide (x.h = y.h) && (x.r == y.r && (decide (pcmp x.p y.p < 0) && ((psib x.p).2 && decide ((psib x.p).1 = y.p))))
def upP (x : Pc) : Pc := ⟨(pparent x.p).1, x.h, x.r⟩
def joinV (x y : Pc) : Pc × Bool := if pairP x y = true then (upP x, true) else (nilPc, false)
def oneL : List Pc → Option (List Pc)
  | [] => none
  | x :: l => match l with
    | [] => none
    | y :: r => if pairP x y = true then some (upP x :: r) else (oneL l).map (x :: ·)
theorem oneL_cons (x y : Pc) (r : List Pc) : oneL (x :: y :: r) = if pairP x y = true then some (upP x :: r) else (oneL (y :: r)).map (x :: ·) := rfl
theorem oneL_len : ∀ {l m : List Pc}, oneL l = some m → m.length + 1 = l.length := by
  intro l
  induction l with
  | nil => intro m h; cases h
  | cons x l ih =>
    intro m h
    cases l with
    | nil => cases h
    | cons y r =>
      rw [oneL_cons] at h
      split at h
      · cases h
        rfl
      · obtain ⟨k, hk, rfl⟩ := Option.map_eq_some_iff.1 h
        have := ih hk
        simp at this ⊢
        omega
def sqzN : Nat → List Pc → List Pc
  | 0, l => l
  | k + 1, l => match oneL l with
    | none => l
    | some m => sqzN k m
def sqz (l : List Pc) : List Pc := sqzN l.length l
theorem sqz_none {l : List Pc} (h : oneL l = none) : sqz l = l := by
  unfold sqz
  cases l.length with
  | zero => rfl
  | succ k => unfold sqzN; rw [h]
theorem sqz_some {l m : List Pc} (h : oneL l = some m) : sqz l = sqz m := by
  unfold sqz
  rw [← oneL_len h]
  conv => lhs; unfold sqzN
  rw [h]
theorem sqz_ind {Q : List Pc → List Pc → Prop} (h0 : ∀ l, oneL l = none → Q l l) (h1 : ∀ l m s, oneL l = some m → Q m s → Q l s) : ∀ l, Q l (sqz l) := by
  have : ∀ (k : Nat) l, l.length = k → Q l (sqz l) := by
    intro k
    induction k with
    | zero =>
      intro l hl
      obtain rfl := List.eq_nil_of_length_eq_zero hl
      exact h0 [] rfl
    | succ k ih =>
      intro l hl
      cases e : oneL l with
      | none => rw [sqz_none e]; exact h0 l e
      | some m =>
        rw [sqz_some e]
        have := oneL_len e
        exact h1 l m _ e (ih m (by omega))
  exact fun l => this _ l rfl
theorem sqz_le (l : List Pc) : (sqz l).length ≤ l.length := sqz_ind (Q := fun l s => s.length ≤ l.length) (fun _ _ => Nat.le_refl _) (fun _ _ _ h i => by have := oneL_len h; omega) l
theorem sqz_end (l : List Pc) : oneL (sqz l) = none := sqz_ind (Q := fun _ s => oneL s = none) (fun _ h => h) (fun _ _ _ _ i => i) l
theorem sqz_again (l : List Pc) : sqz (sqz l) = sqz l := sqz_none (sqz_end l)
/-- The first k pairs are none. -/
theorem oneL_at : ∀ {l : List Pc} (i : Nat), (∀ j, (h : j + 1 < l.length) → j < i → pairP l[j] l[j + 1] = false) → (hi : i + 1 < l.length) → pairP l[i] l[i + 1] = true → oneL l = some (l.take i ++ upP l[i] :: l.drop (i + 2)) := by
  intro l
  induction l with
  | nil => intro i _ hi; simp at hi
  | cons x l ih =>
    intro i h hi hp
    cases l with
    | nil => simp at hi
    | cons y r =>
      rw [oneL_cons]
      cases i with
      | zero =>
        have hp' : pairP x y = true := hp
        rw [if_pos hp']
        rfl
      | succ i =>
        have h0 := h 0 (by simp) (by omega)
        simp only [List.getElem_cons_zero, Nat.zero_add, List.getElem_cons_succ] at h0
        rw [if_neg (by rw [h0]; decide)]
        have hi' : i + 1 < (y :: r).length := by simp at hi ⊢; omega
        rw [ih i (fun j hj hji => h (j + 1) (by simp at hj ⊢; omega) (by omega)) hi' hp]
        rfl
theorem oneL_no : ∀ {l : List Pc}, (∀ j, (h : j + 1 < l.length) → pairP l[j] l[j + 1] = false) → oneL l = none := by
  intro l
  induction l with
  | nil => intro _; rfl
  | cons x l ih =>
    intro h
    cases l with
    | nil => rfl
    | cons y r =>
      have h0 := h 0 (by simp)
      simp only [List.getElem_cons_zero, Nat.zero_add, List.getElem_cons_succ] at h0
      rw [oneL_cons, if_neg (by rw [h0]; decide), ih (fun j hj => h (j + 1) (by simp at hj ⊢; omega))]
      rfl
theorem child_back {x : Pf} (hx : psane x = true) (h0 : 0 < x.n) : x = (pchild (pof x.a (x.n - 1)) (bitv x.a (x.n - 1))).1 := by
  obtain ⟨b0, b1⟩ := psane_bd hx
  obtain ⟨q1, q2, q3, q4⟩ := (psane_iff _).1 hx
  have hq := psane_pof x.a (x.n - 1)
  have hcov := cov_pofI (a := x.a) (m := x.n - 1) (n := x.n) (by omega) (by omega) b1
  have hqn : (pof x.a (x.n - 1)).n = x.n - 1 := by
    rw [pof_of x.a (x.n - 1) (x.n - 1) (clamp_id _ _ (by omega) (by omega))]
  have hxx : pof x.a x.n = x := (con_iff_pof x x.a).1 (con_first x hx)
  rw [hxx] at hcov
  obtain ⟨c1, c2, c3, c4, c5⟩ := (pcov_iff _ _).1 hcov
  have hv : (pof x.a (x.n - 1)).a.v6 = x.a.v6 := c4
  have hlt : (pof x.a (x.n - 1)).n < wid (pof x.a (x.n - 1)).a.v6 := by rw [hqn, hv]; omega
  rw [child_eq _ _ hq hlt]
  refine sane_ext hx (child_sane _ _ hq hlt) (by show x.n = (pof x.a (x.n - 1)).n + 1; omega) ?_ ?_
  · show x.a.v6 = (setv _ _ _).v6
    rw [set_v6, hv]
  intro j hj
  show D x.a j = D (setv _ _ _) j
  rw [child_D _ _ hq hlt j, hqn]
  split
  · rename_i e
    have hw := wid_bd x.a.v6
    have e2 : x.n - 1 = ((127 - j : Nat) : Int) := by omega
    rw [e2, bitv_D x.a (127 - j) (by have := wid_wd x.a.v6; omega), show 127 - (127 - j) = j by omega]
    cases D x.a j
    · simp [odd_01.1]
    · simp [odd_01.2]
  · rename_i e
    exact c5 j (by rw [hqn]; omega)
theorem pair_con {x y : Pc} (h : pairP x y = true) (a : Ad) : pcon (upP x).p a = (pcon x.p a || pcon y.p a) := by
  unfold pairP at h
  simp only [Bool.and_eq_true, decide_eq_true_iff] at h
  obtain ⟨-, -, -, h4, h5⟩ := h
  have hpar : (pparent x.p).2 = true := by
    unfold psib at h4
    split at h4
    · assumption
    · cases h4
  have hsx : psane x.p = true ∧ 0 < x.p.n ∧ pparent x.p = (pof x.p.a (x.p.n - 1), true) := by
    unfold pparent at hpar ⊢
    by_cases e : psane x.p = true
    · rw [if_pos e] at hpar ⊢
      by_cases e0 : x.p.n = 0
      · rw [if_pos e0] at hpar
        cases hpar
      · have := psane_bd e
        exact ⟨e, by omega, if_neg e0⟩
    · rw [if_neg e] at hpar
      cases hpar
  obtain ⟨s1, s2, s3⟩ := hsx
  obtain ⟨b0, b1⟩ := psane_bd s1
  have hq := psane_pof x.p.a (x.p.n - 1)
  have hqn : (pof x.p.a (x.p.n - 1)).n = x.p.n - 1 := by
    rw [pof_of x.p.a (x.p.n - 1) (x.p.n - 1) (clamp_id _ _ (by omega) (by omega))]
  have hv : (pof x.p.a (x.p.n - 1)).a.v6 = x.p.a.v6 := by
    have hcov := cov_pofI (a := x.p.a) (m := x.p.n - 1) (n := x.p.n) (by omega) (by omega) b1
    rw [(con_iff_pof x.p x.p.a).1 (con_first x.p s1)] at hcov
    exact ((pcov_iff _ _).1 hcov).2.2.2.1
  have hlt : (pof x.p.a (x.p.n - 1)).n < wid (pof x.p.a (x.p.n - 1)).a.v6 := by rw [hqn, hv]; omega
  have hx := child_back s1 s2
  have hy : y.p = (pchild (pof x.p.a (x.p.n - 1)) (1 - bitv x.p.a (x.p.n - 1))).1 := by
    rw [← h5]
    unfold psib
    rw [if_pos hpar, s3]
    show (pchild (pof x.p.a (x.p.n - 1)) (1 - bitv x.p.a (pof x.p.a (x.p.n - 1)).n)).1 = _
    rw [hqn]
  have hk := kin_con (pof x.p.a (x.p.n - 1)) hq hlt a
  have hup : (upP x).p = pof x.p.a (x.p.n - 1) := by unfold upP; rw [s3]
  have key : pcon x.p a = pcon (pchild (pof x.p.a (x.p.n - 1)) (bitv x.p.a (x.p.n - 1))).1 a := congrArg (fun q => pcon q a) hx
  rw [hup, hk, hy, key]
  clear key hx hy hk hup hlt hv hqn hq h4 h5
  generalize pof x.p.a (x.p.n - 1) = Q
  rcases bitv_01 x.p.a (x.p.n - 1) with e | e
  · rw [e]
    rfl
  · rw [e, Bool.or_comm]
    rfl
def atL (l : List Pc) (a : Ad) : Option Pc := l.find? fun x => pcon x.p a
theorem oneL_atL : ∀ {l m : List Pc}, oneL l = some m → ∀ a, (atL m a).map (fun x => (x.h, x.r)) = (atL l a).map (fun x => (x.h, x.r)) := by
  intro l
  induction l with
  | nil => intro m h; cases h
  | cons x l ih =>
    intro m h a
    cases l with
    | nil => cases h
    | cons y r =>
      rw [oneL_cons] at h
      split at h
      · rename_i hp
        cases h
        unfold atL
        rw [List.find?_cons, List.find?_cons, List.find?_cons, pair_con hp a]
        have hh : y.h = x.h ∧ y.r = x.r := by
          unfold pairP at hp
          simp only [Bool.and_eq_true, decide_eq_true_iff, beq_iff_eq] at hp
          exact ⟨hp.1.symm, hp.2.1.symm⟩
        cases pcon x.p a
        · cases pcon y.p a
          · rfl
          · simp [upP, hh.1, hh.2]
        · rfl
      · obtain ⟨k, hk, rfl⟩ := Option.map_eq_some_iff.1 h
        have := ih hk a
        unfold atL at this ⊢
        rw [List.find?_cons, List.find?_cons]
        cases pcon x.p a
        · exact this
        · rfl
theorem sqz_atL (l : List Pc) (a : Ad) : (atL (sqz l) a).map (fun x => (x.h, x.r)) = (atL l a).map (fun x => (x.h, x.r)) :=
  sqz_ind (Q := fun l s => (atL s a).map (fun x => (x.h, x.r)) = (atL l a).map (fun x => (x.h, x.r))) (fun _ _ => rfl) (fun _ _ _ h i => i.trans (oneL_atL h a)) l
theorem sqz_isSome (l : List Pc) (a : Ad) : (atL (sqz l) a).isSome = (atL l a).isSome := by
  have := congrArg Option.isSome (sqz_atL l a)
  simpa using this
theorem atL_piece {L : List Pr} {p : Pf} (hp : psane p = true) (a : Ad) : (atL (piecesL L p) a).isSome = pcon p a ∧ ∀ x, atL (piecesL L p) a = some x → x.h = ((longL L a).getD nilPr).v ∧ x.r = (longL L a).isSome := by
  refine ⟨?_, fun x hx => ?_⟩
  · rw [blk_con L a p hp]
    have e : piecesL L p = (blks L p).map (pieceO L) := by unfold piecesL allB; rw [if_pos hp]
    unfold atL
    rw [e]
    generalize blks L p = l
    induction l with
    | nil => rfl
    | cons q r ih =>
      have e0 : pcon (pieceO L q).p a = pcon q a := rfl
      simp only [List.map_cons, List.find?_cons, List.any_cons, e0]
      cases pcon q a
      · simpa using ih
      · rfl
  · have hm := List.mem_of_find?_eq_some hx
    have hc := List.find?_some hx
    obtain ⟨h0, h1, h2, h3, h4, h5, -⟩ := piece_mem hm
    rw [h4, h5, gov_con h3 hc]
    exact ⟨rfl, rfl⟩

def CBox (w : World) (b : Nat) (x : Pc) : Prop := w.heap[b]? = some (.cells #[.int .u64 (u x.p.a.hi), .int .u64 (u x.p.a.lo), .bool x.p.a.v6, .int .i64 x.p.n, .int .i64 x.h, .bool x.r] 80 (0, 0))
theorem CBox.keep {w w' : World} {b : Nat} {x : Pc} (h : CBox w b x) (hb : Below w.heap.size w w') : CBox w' b x := (hb.block _ (lt_of_block h)).trans h
theorem CBox.six {w : World} {b : Nat} {x : Pc} (h : CBox w b x) : w.cell? ⟨b, 0, none⟩ = some (.int .u64 (u x.p.a.hi)) ∧ w.cell? ⟨b, 1, none⟩ = some (.int .u64 (u x.p.a.lo)) ∧ w.cell? ⟨b, 2, none⟩ = some (.bool x.p.a.v6) ∧ w.cell? ⟨b, 3, none⟩ = some (.int .i64 x.p.n) ∧ w.cell? ⟨b, 4, none⟩ = some (.int .i64 x.h) ∧ w.cell? ⟨b, 5, none⟩ = some (.bool x.r) ∧ b < w.heap.size :=
  ⟨(cell_of_row w b 0 _ _ _ h).trans rfl, (cell_of_row w b 1 _ _ _ h).trans rfl, (cell_of_row w b 2 _ _ _ h).trans rfl, (cell_of_row w b 3 _ _ _ h).trans rfl, (cell_of_row w b 4 _ _ _ h).trans rfl, (cell_of_row w b 5 _ _ _ h).trans rfl, lt_of_block h⟩

end Go.Proofs.Ythdnpilkkegniaa

namespace Go.Proofs.Ythdnpilkkegniaa
open Go.RowKit Go.Maps
set_option maxRecDepth 100000

theorem pair_ok {x : Pc} (h : (psib x.p).2 = true) : (pparent x.p).2 = true := by
  unfold psib at h
  split at h
  · assumption
  · cases h
set_option maxHeartbeats 4000000 in
theorem joined_any (x y : Pc) (w : World) : Calls Try.prog 95 #[.agg #[.int .u64 (u x.p.a.hi), .int .u64 (u x.p.a.lo), .bool x.p.a.v6, .int .i64 x.p.n, .int .i64 x.h, .bool x.r], .agg #[.int .u64 (u y.p.a.hi), .int .u64 (u y.p.a.lo), .bool y.p.a.v6, .int .i64 y.p.n, .int .i64 y.h, .bool y.r]] w fun e w' => e = .returned (.tuple #[.agg #[.int .u64 (u (joinV x y).1.p.a.hi), .int .u64 (u (joinV x y).1.p.a.lo), .bool (joinV x y).1.p.a.v6, .int .i64 (joinV x y).1.p.n, .int .i64 (joinV x y).1.h, .bool (joinV x y).1.r], .bool (joinV x y).2]) ∧ Below w.heap.size w w' := by
  have hno : pairP x y = false → joinV x y = (nilPc, false) := fun h => by unfold joinV; rw [if_neg (by rw [h]; decide)]
  have hyes : pairP x y = true → joinV x y = (upP x, true) := fun h => by unfold joinV; rw [if_pos h]
  have cc := fun W => pcmp_any x.p y.p W
  have cs := fun W => psib_any x.p W
  have cp := fun W => pparent_any x.p W
  have CC := Lib.hid cc
  have CS := Lib.hid cs
  have CP := Lib.hid cp
  clear cc cs cp
  by_cases h1 : x.h = y.h
  case neg =>
    have HJ := Lib.hid (hno (by unfold pairP; simp [h1]))
    clear hno hyes
    have t1 : (x.h != y.h) = true := by rw [bne_iff_ne]; exact h1
    clear h1
    go_enter Try.func95, Try.ntmps95
    go_upto_region 1 with fail
    generalize hV : World.alloc _ _ = w1
    have b1 : Below w.heap.size w w1 := by subst hV; go_grown
    have Hx1 : Hid (CBox w1 w.heap.size x) := Lib.hid (by subst hV; unfold CBox; repeat (first | (refine hp_new ?_; (simp; done)) | (refine hp_old ?_ ?_; · (first | (simp; done) | (simp; omega)))))
    have Hy1 : Hid (CBox w1 (w.heap.size + 1) y) := Lib.hid (by subst hV; unfold CBox; repeat (first | (refine hp_new ?_; (simp; done)) | (refine hp_old ?_ ?_; · (first | (simp; done) | (simp; omega)))))
    have Hq1 : Hid (CBox w1 (w.heap.size + 1 + 1) nilPc) := Lib.hid (by subst hV; unfold CBox; repeat (first | (refine hp_new ?_; (simp; done)) | (refine hp_old ?_ ?_; · (first | (simp; done) | (simp; omega)))))
    have z1 := lt_of_block Hq1.out
    clear hV
    obtain ⟨x0, x1, x2, x3, x4, x5, xz⟩ := id Hx1.out.six
    obtain ⟨y0, y1, y2, y3, y4, y5, yz⟩ := id Hy1.out.six
    go_upto_region 2 with fail
    go_wp2_with (refine wpList_row rfl _ _ _ rfl (w.heap.size + 1 + 1) _ rfl rfl 80 _ (Hq1.out) 6 size_piece rfl rfl rfl ?_; intro w9 h9 f9; have b9 : Below w.heap.size w w9 := (b1).trans (f9.below (fun b hb => by omega) (by first | omega | (simp only [World.size_alloc]; omega))); have q0 := cell_row (i := 0) h9; have q1 := cell_row (i := 1) h9; have q2 := cell_row (i := 2) h9; have q3 := cell_row (i := 3) h9; have q4 := cell_row (i := 4) h9; have q5 := cell_row (i := 5) h9; simp at q0 q1 q2 q3 q4 q5; clear f9)
    refine bodyPost_ret (v := .tuple #[.agg #[.int .u64 0, .int .u64 0, .bool false, .int .i64 0, .int .i64 0, .bool false], .bool false]) (by simp [*, results, Try.results95, go_sem] <;> rfl) rfl ⟨by rw [HJ.out]; rfl, b9⟩
  have t1 : (x.h != y.h) = false := by rw [bne_eq_false_iff_eq]; exact h1
  by_cases h2 : x.r = y.r
  case neg =>
    have HJ := Lib.hid (hno (by unfold pairP; simp [h2]))
    clear hno hyes
    have t2 : (x.r == y.r) = false := by rw [beq_eq_false_iff_ne]; exact h2
    clear h2 h1
    go_enter Try.func95, Try.ntmps95
    go_upto_region 1 with fail
    generalize hV : World.alloc _ _ = w1
    have b1 : Below w.heap.size w w1 := by subst hV; go_grown
    have Hx1 : Hid (CBox w1 w.heap.size x) := Lib.hid (by subst hV; unfold CBox; repeat (first | (refine hp_new ?_; (simp; done)) | (refine hp_old ?_ ?_; · (first | (simp; done) | (simp; omega)))))
    have Hy1 : Hid (CBox w1 (w.heap.size + 1) y) := Lib.hid (by subst hV; unfold CBox; repeat (first | (refine hp_new ?_; (simp; done)) | (refine hp_old ?_ ?_; · (first | (simp; done) | (simp; omega)))))
    have Hq1 : Hid (CBox w1 (w.heap.size + 1 + 1) nilPc) := Lib.hid (by subst hV; unfold CBox; repeat (first | (refine hp_new ?_; (simp; done)) | (refine hp_old ?_ ?_; · (first | (simp; done) | (simp; omega)))))
    have z1 := lt_of_block Hq1.out
    clear hV
    obtain ⟨x0, x1, x2, x3, x4, x5, xz⟩ := id Hx1.out.six
    obtain ⟨y0, y1, y2, y3, y4, y5, yz⟩ := id Hy1.out.six
    go_upto_region 2 with fail
    go_wp2_with (refine wpList_row rfl _ _ _ rfl (w.heap.size + 1 + 1) _ rfl rfl 80 _ (Hq1.out) 6 size_piece rfl rfl rfl ?_; intro w9 h9 f9; have b9 : Below w.heap.size w w9 := (b1).trans (f9.below (fun b hb => by omega) (by first | omega | (simp only [World.size_alloc]; omega))); have q0 := cell_row (i := 0) h9; have q1 := cell_row (i := 1) h9; have q2 := cell_row (i := 2) h9; have q3 := cell_row (i := 3) h9; have q4 := cell_row (i := 4) h9; have q5 := cell_row (i := 5) h9; simp at q0 q1 q2 q3 q4 q5; clear f9)
    refine bodyPost_ret (v := .tuple #[.agg #[.int .u64 0, .int .u64 0, .bool false, .int .i64 0, .int .i64 0, .bool false], .bool false]) (by simp [*, results, Try.results95, go_sem] <;> rfl) rfl ⟨by rw [HJ.out]; rfl, b9⟩
  have t2 : (x.r == y.r) = true := by rw [beq_iff_eq]; exact h2
  by_cases h3 : pcmp x.p y.p < 0
  case neg =>
    have HJ := Lib.hid (hno (by unfold pairP; simp [h3]))
    clear hno hyes
    have t3 : decide (0 ≤ pcmp x.p y.p) = true := decide_eq_true (by omega)
    clear h3 h2 h1
    go_enter Try.func95, Try.ntmps95
    go_upto_region 1 with fail
    generalize hV : World.alloc _ _ = w1
    have b1 : Below w.heap.size w w1 := by subst hV; go_grown
    have Hx1 : Hid (CBox w1 w.heap.size x) := Lib.hid (by subst hV; unfold CBox; repeat (first | (refine hp_new ?_; (simp; done)) | (refine hp_old ?_ ?_; · (first | (simp; done) | (simp; omega)))))
    have Hy1 : Hid (CBox w1 (w.heap.size + 1) y) := Lib.hid (by subst hV; unfold CBox; repeat (first | (refine hp_new ?_; (simp; done)) | (refine hp_old ?_ ?_; · (first | (simp; done) | (simp; omega)))))
    have Hq1 : Hid (CBox w1 (w.heap.size + 1 + 1) nilPc) := Lib.hid (by subst hV; unfold CBox; repeat (first | (refine hp_new ?_; (simp; done)) | (refine hp_old ?_ ?_; · (first | (simp; done) | (simp; omega)))))
    have z1 := lt_of_block Hq1.out
    clear hV
    obtain ⟨x0, x1, x2, x3, x4, x5, xz⟩ := id Hx1.out.six
    obtain ⟨y0, y1, y2, y3, y4, y5, yz⟩ := id Hy1.out.six
    go_wp2_with fail
    refine (CC.out _).mono ?_
    rintro e w2 ⟨rfl, hw⟩
    have ee := hw
    have Hx2 := Lib.hid (Hx1.out.keep ee)
    have Hy2 := Lib.hid (Hy1.out.keep ee)
    have Hq2 := Lib.hid (Hq1.out.keep ee)
    have b2 := b1.trans (ee.mono b1.size)
    have z2 := b2.size
    have y2 := ee.size
    clear hw ee Hx1 Hy1 Hq1 x0 x1 x2 x3 x4 x5 xz y0 y1 y2 y3 y4 y5 yz
    go_upto_region 2 with fail
    go_wp2_with (refine wpList_row rfl _ _ _ rfl (w.heap.size + 1 + 1) _ rfl rfl 80 _ (Hq2.out) 6 size_piece rfl rfl rfl ?_; intro w9 h9 f9; have b9 : Below w.heap.size w w9 := (b2).trans (f9.below (fun b hb => by omega) (by first | omega | (simp only [World.size_alloc]; omega))); have q0 := cell_row (i := 0) h9; have q1 := cell_row (i := 1) h9; have q2 := cell_row (i := 2) h9; have q3 := cell_row (i := 3) h9; have q4 := cell_row (i := 4) h9; have q5 := cell_row (i := 5) h9; simp at q0 q1 q2 q3 q4 q5; clear f9)
    refine bodyPost_ret (v := .tuple #[.agg #[.int .u64 0, .int .u64 0, .bool false, .int .i64 0, .int .i64 0, .bool false], .bool false]) (by simp [*, results, Try.results95, go_sem] <;> rfl) rfl ⟨by rw [HJ.out]; rfl, b9⟩
  have t3 : decide (0 ≤ pcmp x.p y.p) = false := decide_eq_false (by omega)
  cases h4 : (psib x.p).2
  case false =>
    have HJ := Lib.hid (hno (by unfold pairP; rw [h4]; simp))
    clear hno hyes
    have cs := CS.out
    rw [h4] at cs
    have CS2 := Lib.hid cs
    clear cs h4 h3 h2 h1
    go_enter Try.func95, Try.ntmps95
    go_upto_region 1 with fail
    generalize hV : World.alloc _ _ = w1
    have b1 : Below w.heap.size w w1 := by subst hV; go_grown
    have Hx1 : Hid (CBox w1 w.heap.size x) := Lib.hid (by subst hV; unfold CBox; repeat (first | (refine hp_new ?_; (simp; done)) | (refine hp_old ?_ ?_; · (first | (simp; done) | (simp; omega)))))
    have Hy1 : Hid (CBox w1 (w.heap.size + 1) y) := Lib.hid (by subst hV; unfold CBox; repeat (first | (refine hp_new ?_; (simp; done)) | (refine hp_old ?_ ?_; · (first | (simp; done) | (simp; omega)))))
    have Hq1 : Hid (CBox w1 (w.heap.size + 1 + 1) nilPc) := Lib.hid (by subst hV; unfold CBox; repeat (first | (refine hp_new ?_; (simp; done)) | (refine hp_old ?_ ?_; · (first | (simp; done) | (simp; omega)))))
    have z1 := lt_of_block Hq1.out
    clear hV
    obtain ⟨x0, x1, x2, x3, x4, x5, xz⟩ := id Hx1.out.six
    obtain ⟨y0, y1, y2, y3, y4, y5, yz⟩ := id Hy1.out.six
    go_wp2_with fail
    refine (CC.out _).mono ?_
    rintro e w2 ⟨rfl, hw⟩
    have ee := hw
    have Hx2 := Lib.hid (Hx1.out.keep ee)
    have Hy2 := Lib.hid (Hy1.out.keep ee)
    have Hq2 := Lib.hid (Hq1.out.keep ee)
    have b2 := b1.trans (ee.mono b1.size)
    have z2 := b2.size
    have y2 := ee.size
    clear hw ee Hx1 Hy1 Hq1 x0 x1 x2 x3 x4 x5 xz y0 y1 y2 y3 y4 y5 yz
    obtain ⟨x0, x1, x2, x3, x4, x5, xz⟩ := id Hx2.out.six
    go_wp2_with fail
    refine (CS2.out _).mono ?_
    rintro e w3 ⟨rfl, hw⟩
    have ee := hw
    have Hx3 := Lib.hid (Hx2.out.keep ee)
    have Hy3 := Lib.hid (Hy2.out.keep ee)
    have Hq3 := Lib.hid (Hq2.out.keep ee)
    have b3 := b2.trans (ee.mono b2.size)
    have z3 := b3.size
    have y3 := ee.size
    clear hw ee Hx2 Hy2 Hq2 x0 x1 x2 x3 x4 x5 xz
    go_upto_region 5 with fail
    go_wp2_with (refine wpList_row rfl _ _ _ rfl (w.heap.size + 1 + 1) _ rfl rfl 80 _ (hp_old (lt_of_block Hq3.out) Hq3.out) 6 size_piece rfl rfl rfl ?_; intro w9 h9 f9; have b9 : Below w.heap.size w w9 := (b3.alloc (by omega) _).trans (f9.below (fun b hb => by omega) (by first | omega | (simp only [World.size_alloc]; omega))); have q0 := cell_row (i := 0) h9; have q1 := cell_row (i := 1) h9; have q2 := cell_row (i := 2) h9; have q3 := cell_row (i := 3) h9; have q4 := cell_row (i := 4) h9; have q5 := cell_row (i := 5) h9; simp at q0 q1 q2 q3 q4 q5; clear f9)
    refine bodyPost_ret (v := .tuple #[.agg #[.int .u64 0, .int .u64 0, .bool false, .int .i64 0, .int .i64 0, .bool false], .bool false]) (by simp [*, results, Try.results95, go_sem] <;> rfl) rfl ⟨by rw [HJ.out]; rfl, b9⟩
  have h6 := pair_ok h4
  by_cases h5 : (psib x.p).1 = y.p
  case neg =>
    have HJ := Lib.hid (hno (by unfold pairP; simp [h5]))
    clear hno hyes
    have t5 : pfB (u (psib x.p).1.a.hi) (u (psib x.p).1.a.lo) (psib x.p).1.a.v6 (psib x.p).1.n (u y.p.a.hi) (u y.p.a.lo) y.p.a.v6 y.p.n = false := by
      cases h : pfB (u (psib x.p).1.a.hi) (u (psib x.p).1.a.lo) (psib x.p).1.a.v6 (psib x.p).1.n (u y.p.a.hi) (u y.p.a.lo) y.p.a.v6 y.p.n
      · rfl
      · exact absurd ((pfEq_iff _ _).1 h) h5
    have cs := CS.out
    rw [h4] at cs
    have CS2 := Lib.hid cs
    clear cs h4 h3 h2 h1 h5 h6
    go_enter Try.func95, Try.ntmps95
    go_upto_region 1 with fail
    generalize hV : World.alloc _ _ = w1
    have b1 : Below w.heap.size w w1 := by subst hV; go_grown
    have Hx1 : Hid (CBox w1 w.heap.size x) := Lib.hid (by subst hV; unfold CBox; repeat (first | (refine hp_new ?_; (simp; done)) | (refine hp_old ?_ ?_; · (first | (simp; done) | (simp; omega)))))
    have Hy1 : Hid (CBox w1 (w.heap.size + 1) y) := Lib.hid (by subst hV; unfold CBox; repeat (first | (refine hp_new ?_; (simp; done)) | (refine hp_old ?_ ?_; · (first | (simp; done) | (simp; omega)))))
    have Hq1 : Hid (CBox w1 (w.heap.size + 1 + 1) nilPc) := Lib.hid (by subst hV; unfold CBox; repeat (first | (refine hp_new ?_; (simp; done)) | (refine hp_old ?_ ?_; · (first | (simp; done) | (simp; omega)))))
    have z1 := lt_of_block Hq1.out
    clear hV
    obtain ⟨x0, x1, x2, x3, x4, x5, xz⟩ := id Hx1.out.six
    obtain ⟨y0, y1, y2, y3, y4, y5, yz⟩ := id Hy1.out.six
    go_wp2_with fail
    refine (CC.out _).mono ?_
    rintro e w2 ⟨rfl, hw⟩
    have ee := hw
    have Hx2 := Lib.hid (Hx1.out.keep ee)
    have Hy2 := Lib.hid (Hy1.out.keep ee)
    have Hq2 := Lib.hid (Hq1.out.keep ee)
    have b2 := b1.trans (ee.mono b1.size)
    have z2 := b2.size
    have y2 := ee.size
    clear hw ee Hx1 Hy1 Hq1 x0 x1 x2 x3 x4 x5 xz y0 y1 y2 y3 y4 y5 yz
    obtain ⟨x0, x1, x2, x3, x4, x5, xz⟩ := id Hx2.out.six
    go_wp2_with fail
    refine (CS2.out _).mono ?_
    rintro e w3 ⟨rfl, hw⟩
    have ee := hw
    have Hx3 := Lib.hid (Hx2.out.keep ee)
    have Hy3 := Lib.hid (Hy2.out.keep ee)
    have Hq3 := Lib.hid (Hq2.out.keep ee)
    have b3 := b2.trans (ee.mono b2.size)
    have z3 := b3.size
    have y3 := ee.size
    clear hw ee Hx2 Hy2 Hq2 x0 x1 x2 x3 x4 x5 xz
    obtain ⟨y0, y1, y2, y3, y4, y5, yz⟩ := id Hy3.out.six
    have yn0 : ¬ w.heap.size + 1 = w3.heap.size := by omega
    go_upto_region 5 with fail
    go_wp2_with (refine wpList_row rfl _ _ _ rfl (w.heap.size + 1 + 1) _ rfl rfl 80 _ (hp_old (lt_of_block Hq3.out) Hq3.out) 6 size_piece rfl rfl rfl ?_; intro w9 h9 f9; have b9 : Below w.heap.size w w9 := (b3.alloc (by omega) _).trans (f9.below (fun b hb => by omega) (by first | omega | (simp only [World.size_alloc]; omega))); have q0 := cell_row (i := 0) h9; have q1 := cell_row (i := 1) h9; have q2 := cell_row (i := 2) h9; have q3 := cell_row (i := 3) h9; have q4 := cell_row (i := 4) h9; have q5 := cell_row (i := 5) h9; simp at q0 q1 q2 q3 q4 q5; clear f9)
    refine bodyPost_ret (v := .tuple #[.agg #[.int .u64 0, .int .u64 0, .bool false, .int .i64 0, .int .i64 0, .bool false], .bool false]) (by simp [*, results, Try.results95, go_sem] <;> rfl) rfl ⟨by rw [HJ.out]; rfl, b9⟩
  have HJ := Lib.hid (hyes (by unfold pairP; simp [h1, h2, h3, h4, h5]))
  have t5 : pfB (u (psib x.p).1.a.hi) (u (psib x.p).1.a.lo) (psib x.p).1.a.v6 (psib x.p).1.n (u y.p.a.hi) (u y.p.a.lo) y.p.a.v6 y.p.n = true := (pfEq_iff _ _).2 h5
  have cs := CS.out
  rw [h4] at cs
  have cp := CP.out
  rw [h6] at cp
  have CS2 := Lib.hid cs
  have CP2 := Lib.hid cp
  clear cs cp h4 h3 h2 h1 h5 h6 hno hyes
  go_enter Try.func95, Try.ntmps95
  go_upto_region 1 with fail
  generalize hV : World.alloc _ _ = w1
  have b1 : Below w.heap.size w w1 := by subst hV; go_grown
  have Hx1 : Hid (CBox w1 w.heap.size x) := Lib.hid (by subst hV; unfold CBox; repeat (first | (refine hp_new ?_; (simp; done)) | (refine hp_old ?_ ?_; · (first | (simp; done) | (simp; omega)))))
  have Hy1 : Hid (CBox w1 (w.heap.size + 1) y) := Lib.hid (by subst hV; unfold CBox; repeat (first | (refine hp_new ?_; (simp; done)) | (refine hp_old ?_ ?_; · (first | (simp; done) | (simp; omega)))))
  have Hq1 : Hid (CBox w1 (w.heap.size + 1 + 1) nilPc) := Lib.hid (by subst hV; unfold CBox; repeat (first | (refine hp_new ?_; (simp; done)) | (refine hp_old ?_ ?_; · (first | (simp; done) | (simp; omega)))))
  have z1 := lt_of_block Hq1.out
  clear hV
  obtain ⟨x0, x1, x2, x3, x4, x5, xz⟩ := id Hx1.out.six
  obtain ⟨y0, y1, y2, y3, y4, y5, yz⟩ := id Hy1.out.six
  go_wp2_with fail
  refine (CC.out _).mono ?_
  rintro e w2 ⟨rfl, hw⟩
  have ee := hw
  have Hx2 := Lib.hid (Hx1.out.keep ee)
  have Hy2 := Lib.hid (Hy1.out.keep ee)
  have Hq2 := Lib.hid (Hq1.out.keep ee)
  have b2 := b1.trans (ee.mono b1.size)
  have z2 := b2.size
  have y2 := ee.size
  clear hw ee Hx1 Hy1 Hq1 x0 x1 x2 x3 x4 x5 xz y0 y1 y2 y3 y4 y5 yz
  obtain ⟨x0, x1, x2, x3, x4, x5, xz⟩ := id Hx2.out.six
  go_wp2_with fail
  refine (CS2.out _).mono ?_
  rintro e w3 ⟨rfl, hw⟩
  have ee := hw
  have Hx3 := Lib.hid (Hx2.out.keep ee)
  have Hy3 := Lib.hid (Hy2.out.keep ee)
  have Hq3 := Lib.hid (Hq2.out.keep ee)
  have b3 := b2.trans (ee.mono b2.size)
  have z3 := b3.size
  have y3 := ee.size
  clear hw ee Hx2 Hy2 Hq2 x0 x1 x2 x3 x4 x5 xz
  obtain ⟨x0, x1, x2, x3, x4, x5, xz⟩ := id Hx3.out.six
  have xn0 : ¬ w.heap.size = w3.heap.size := by omega
  obtain ⟨y0, y1, y2, y3, y4, y5, yz⟩ := id Hy3.out.six
  have yn0 : ¬ w.heap.size + 1 = w3.heap.size := by omega
  go_wp2_with fail
  refine (CP2.out _).mono ?_
  rintro e w4 ⟨rfl, hw⟩
  have ee : Below w3.heap.size w3 w4 := below_of (by go_grown) hw
  have Hs4 : Hid (PBox w4 (w3.heap.size) (psib x.p).1) := Lib.hid (PBox.keep (by exact ⟨by go_simp <;> rfl, by go_simp <;> rfl, by go_simp <;> rfl, by go_simp <;> rfl, by go_simp <;> rfl, by go_simp <;> rfl, by go_simp <;> rfl, by go_simp <;> rfl, by go_size⟩) hw)
  have Hx4 := Lib.hid (Hx3.out.keep ee)
  have Hy4 := Lib.hid (Hy3.out.keep ee)
  have Hq4 := Lib.hid (Hq3.out.keep ee)
  have b4 := b3.trans (ee.mono b3.size)
  have z4 := b4.size
  have y4 := ee.size
  clear hw ee Hx3 Hy3 Hq3 x0 x1 x2 x3 x4 x5 xz xn0 y0 y1 y2 y3 y4 y5 yz yn0
  obtain ⟨x0, x1, x2, x3, x4, x5, xz⟩ := id Hx4.out.six
  have xn0 : ¬ w.heap.size = w4.heap.size := by omega
  clear t1 t2 t3 t5
  go_upto_region 7 with fail
  go_wp2_with (refine wpList_row rfl _ _ _ rfl (w.heap.size + 1 + 1) _ rfl rfl 80 _ (hp_old (lt_of_block Hq4.out) Hq4.out) 6 size_piece rfl rfl rfl ?_; intro w9 h9 f9; have b9 : Below w.heap.size w w9 := (b4.alloc (by omega) _).trans (f9.below (fun b hb => by omega) (by first | omega | (simp only [World.size_alloc]; omega))); have q0 := cell_row (i := 0) h9; have q1 := cell_row (i := 1) h9; have q2 := cell_row (i := 2) h9; have q3 := cell_row (i := 3) h9; have q4 := cell_row (i := 4) h9; have q5 := cell_row (i := 5) h9; simp at q0 q1 q2 q3 q4 q5; clear f9)
  refine bodyPost_ret (v := .tuple #[.agg #[.int .u64 (u (pparent x.p).1.a.hi), .int .u64 (u (pparent x.p).1.a.lo), .bool (pparent x.p).1.a.v6, .int .i64 (pparent x.p).1.n, .int .i64 x.h, .bool x.r], .bool true]) (by simp [*, results, Try.results95, go_sem] <;> rfl) rfl ⟨by rw [HJ.out]; rfl, b9⟩

end Go.Proofs.Ythdnpilkkegniaa

namespace Go.Proofs.Ythdnpilkkegniaa
open Go.RowKit
set_option maxRecDepth 100000

section
variable {α : Type} {K : Kd α}
variable {E SL : TypeId} {ops : Array Oper} {rest : List Oper} {o : Oper} {a : Act} {w : World} {Q : Exit → Act → World → Prop}
theorem Kd.run_copy (F : K.Ty E SL) (ty : TypeId) (g x dLen dCap : Nat) (ad : Addr) (sLen sCap : Nat) (cur : Array Value) (t : TypeId) (cs : List Value) (hg : w.heap[g]? = some (.cells cur t (0, 0))) (hn : cs.length = Nat.min sLen dLen * K.k)
    (hsrc : ∀ j v, cs[j]? = some v → w.cell? (ad.add j) = some v) (hfit : x + cs.length ≤ cur.size) (h1 : ∀ v ∈ cs, v.oneCell' = true) :
    (Builtin.copy_ #[SL, SL] ty #[.slice (some ⟨g, x, none⟩) dLen dCap, .slice (some ad) sLen sCap]).run Try.prog w = .ok (goInt (Nat.min sLen dLen)) (w.setRow g (cur.toList.take x ++ cs ++ cur.toList.drop (x + cs.length)).toArray) := by
  obtain ⟨i0, z0, hi0, hz0, hz1, hz2, hz3⟩ := F.info
  have hl := run_loadCells_list (P := Try.prog) w ad cs hsrc
  have hst := run_storeCells_at Try.prog g x t cs 0 cur w hg (by simpa using hfit) h1
  simp [Builtin.copy_, run_underlying F.sl, Builtin.lenOf, Builtin.firstCells, sizeOf, typeInfo, hi0, hz1, ← hn, hl, hst]
theorem Kd.run_copy_none (F : K.Ty E SL) (ty : TypeId) (d s : Option Addr) (dLen dCap sLen sCap : Nat) (hn : Nat.min sLen dLen = 0) :
    (Builtin.copy_ #[SL, SL] ty #[.slice d dLen dCap, .slice s sLen sCap]).run Try.prog w = .ok (goInt 0) w := by
  obtain ⟨i0, z0, hi0, hz0, hz1, hz2, hz3⟩ := F.info
  have hl : ∀ (x : Addr), (loadCells x 0).run Try.prog w = .ok #[] w := fun x => by simpa using run_loadCells_list (P := Try.prog) w x [] (by simp)
  cases d <;> cases s <;> simp [Builtin.copy_, run_underlying F.sl, Builtin.lenOf, Builtin.firstCells, sizeOf, typeInfo, hi0, hn, storeCells, hl]
theorem Kd.wpList_copy (F : K.Ty E SL) (hgd : o.guard = none) (d s : Operand) (ho : o.op = .call { callee := .builtin .copy, args := #[d, s], argTypes := #[SL, SL] }) (dp sp : Option Addr) (dLen dCap sLen sCap : Nat) (hd : a.eval d = .slice dp dLen dCap) (hs : a.eval s = .slice sp sLen sCap)
    (g off : Nat) (cur : List Value) (t : TypeId) (hg : w.heap[g]? = some (.cells cur.toArray t (0, 0))) (cs : List Value) (hn : cs.length = Nat.min sLen dLen * K.k)
    (hpos : 0 < cs.length → dp = some ⟨g, off, none⟩ ∧ ∃ ad, sp = some ad ∧ ∀ j v, cs[j]? = some v → w.cell? (ad.add j) = some v)
    (hfit : off + cs.length ≤ cur.length) (h1 : ∀ v ∈ cs, v.oneCell' = true) (B : Nat) (w0 : World) (hb : Below B w0 w) (hBg : B ≤ g)
    (h : ∀ w' v, Hid (w'.heap[g]? = some (.cells (splice cur off cs).toArray t (0, 0))) → Below B w0 w' → wpList Try.prog ops Q rest (a.put o.dst v) w') :
    wpList Try.prog ops Q (o :: rest) a w := by
  refine wpList_plain hgd fun L hK => ?_
  by_cases h0 : cs.length = 0
  · obtain rfl : cs = [] := List.eq_nil_of_length_eq_zero h0
    have hmin : Nat.min sLen dLen = 0 := by
      have hp := K.pos
      rcases Nat.eq_zero_or_pos (Nat.min sLen dLen) with e | e
      · exact e
      · have := Nat.mul_pos e hp
        simp only [List.length_nil] at hn
        omega
    have hrun := Kd.run_copy_none (w := w) F o.type dp sp dLen dCap sLen sCap hmin
    unfold Oper.wp
    simp [execOp, ho, resolve, invoke, builtin, hd, hs, hrun, Result.andThen]
    exact hK _ _ (h w _ (show _ = _ by simpa [splice] using hg) hb)
  · obtain ⟨rfl, ad, rfl, hsrc⟩ := hpos (by omega)
    have hrun := Kd.run_copy (w := w) F o.type g off dLen dCap ad sLen sCap cur.toArray t cs hg hn hsrc (by simpa using hfit) h1
    unfold Oper.wp
    simp [execOp, ho, resolve, invoke, builtin, hd, hs, hrun, Result.andThen]
    exact hK _ _ (h _ _ (show _ = _ by simpa [splice] using setRow_heap w g _ _ t _ hg) (below_setRow hb hBg _))
theorem Kd.wpList_room (F : K.Ty E SL) (hgd : o.guard = none) (s x : Operand) (ho : o.op = .call { callee := .builtin .append, args := #[s, x], argTypes := #[SL, SL] }) (g n cap : Nat) (hs : a.eval s = .slice (some ⟨g, 0, none⟩) n cap)
    (ad : Addr) (m c : Nat) (hx : a.eval x = .slice (some ad) m c) (cur : List Value) (t : TypeId) (hg : w.heap[g]? = some (.cells cur.toArray t (0, 0))) (cs : List Value) (hn : cs.length = m * K.k) (hsrc : ∀ j v, cs[j]? = some v → w.cell? (ad.add j) = some v)
    (hroom : n + m ≤ cap) (hfit : n * K.k + cs.length ≤ cur.length) (h1 : ∀ v ∈ cs, v.oneCell' = true) (B : Nat) (w0 : World) (hb : Below B w0 w) (hBg : B ≤ g)
    (h : ∀ w', Hid (w'.heap[g]? = some (.cells (splice cur (n * K.k) cs).toArray t (0, 0))) → Below B w0 w' → wpList Try.prog ops Q rest (a.put o.dst (.slice (some ⟨g, 0, none⟩) (n + m) cap)) w') :
    wpList Try.prog ops Q (o :: rest) a w := by
  refine wpList_plain hgd fun L hK => ?_
  obtain ⟨i0, z0, hi0, hz0, hz1, hz2, hz3⟩ := F.info
  have hfc := run_firstCells_some (P := Try.prog) (w := w) K.k m ad m c cs hn hsrc
  have hst := run_storeCells_at Try.prog g (n * K.k) t cs 0 cur.toArray w hg (by simpa using hfit) h1
  have hrun : (Builtin.append_ #[SL, SL] o.type #[.slice (some ⟨g, 0, none⟩) n cap, .slice (some ad) m c]).run Try.prog w = .ok (.slice (some ⟨g, 0, none⟩) (n + m) cap) (w.setRow g (cur.take (n * K.k) ++ cs ++ cur.drop (n * K.k + cs.length)).toArray) := by
    simp only [Nat.add_zero] at hst
    simp [Builtin.append_, run_underlying F.sl, sizeOf, typeInfo, hi0, hz1, Builtin.lenOf, hroom, hfc, Addr.add_lit, hst]
  unfold Oper.wp
  simp [execOp, ho, resolve, invoke, builtin, hs, hx, hrun, Result.andThen]
  exact hK _ _ (h _ (show _ = _ by simpa [splice] using setRow_heap w g _ _ t _ hg) (below_setRow hb hBg _))
theorem Kd.wpList_clear (F : K.Ty E SL) (hone : ∀ i z, Try.prog.info? E = some i → i.zero = some z → ∀ u ∈ z.cells.toList, u.oneCell' = true) (hgd : o.guard = none) (s : Operand) (ho : o.op = .call { callee := .builtin .clear, args := #[s], argTypes := #[SL] }) (g x n cap : Nat) (hs : a.eval s = .slice (some ⟨g, x, none⟩) n cap)
    (cur : List Value) (t : TypeId) (hg : w.heap[g]? = some (.cells cur.toArray t (0, 0))) (hn : 0 < n) (hfit : x + n * K.k ≤ cur.length) (B : Nat) (w0 : World) (hb : Below B w0 w) (hBg : B ≤ g)
    (h : ∀ w' cs, cs.length = n * K.k → Hid (w'.heap[g]? = some (.cells (splice cur x cs).toArray t (0, 0))) → Below B w0 w' → wpList Try.prog ops Q rest (a.put o.dst (.tuple #[])) w') :
    wpList Try.prog ops Q (o :: rest) a w := by
  refine wpList_plain hgd fun L hK => ?_
  obtain ⟨i0, z0, hi0, hz0, hz1, hz2, hz3⟩ := F.info
  obtain ⟨cs, hcs⟩ : ∃ cs, cs = (Builtin.zeroCells z0.cells n).toList := ⟨_, rfl⟩
  have hl : cs.length = n * K.k := by rw [hcs]; simp [Builtin.zeroCells, hz3]
  have h1 : ∀ v ∈ cs, v.oneCell' = true := by
    intro v hv
    rw [hcs] at hv
    simp only [Builtin.zeroCells, Array.toList_map, Array.toList_range, List.mem_map, List.mem_range] at hv
    obtain ⟨j, hj, rfl⟩ := hv
    have hj' : j % z0.cells.size < z0.cells.size := Nat.mod_lt _ (by rw [hz3]; exact K.pos)
    rw [getElem!_pos z0.cells _ hj']
    exact hone i0 z0 hi0 hz0 _ (by simp)
  have hst := run_storeCells_at Try.prog g x t cs 0 cur.toArray w hg (by simp only [List.size_toArray]; omega) h1
  have hrun : (Builtin.clear_ #[SL] o.type #[.slice (some ⟨g, x, none⟩) n cap]).run Try.prog w = .ok (.tuple #[]) (w.setRow g (cur.take x ++ cs ++ cur.drop (x + cs.length)).toArray) := by
    obtain ⟨m, rfl⟩ : ∃ m, n = m + 1 := ⟨n - 1, by omega⟩
    simp only [Nat.add_zero] at hst
    simp [Builtin.clear_, run_underlying F.sl, zeroValue, typeInfo, hi0, hz0, ← hcs, hst]
  unfold Oper.wp
  simp [execOp, ho, resolve, invoke, builtin, hs, hrun, Result.andThen]
  exact hK _ _ (h _ _ hl (show _ = _ by simpa [splice] using setRow_heap w g _ _ t _ hg) (below_setRow hb hBg _))
end
theorem splice_take {α : Type} (L : List α) (off : Nat) (cs : List α) (k : Nat) (h : off ≤ L.length) (hk : k ≤ off) : (splice L off cs).take k = L.take k := by
  unfold splice
  rw [List.take_append_of_le_length (by rw [List.length_take]; omega), List.take_take, Nat.min_eq_left hk]
theorem splice_upto {α : Type} (L : List α) (off : Nat) (cs : List α) (h : off ≤ L.length) : (splice L off cs).take (off + cs.length) = L.take off ++ cs := by
  unfold splice
  rw [← List.append_assoc, List.take_append_of_le_length (by simp; omega), List.take_of_length_le (by simp; omega)]

end Go.Proofs.Ythdnpilkkegniaa

namespace Go.Proofs.Ythdnpilkkegniaa
open Go.RowKit Go.Maps
set_option maxRecDepth 100000

section
variable {α : Type} (K : Kd α)
theorem Kd.row_take (l : List α) (k : Nat) : (K.row l).take (k * K.k) = K.row (l.take k) := by
  induction k generalizing l with
  | zero => simp [Kd.row]
  | succ k ih =>
    cases l with
    | nil => simp [Kd.row]
    | cons x r =>
      rw [K.row_cons, List.take_succ_cons, K.row_cons, ← ih r, List.take_append, List.take_of_length_le (by rw [K.len, Nat.add_mul]; omega), K.len]
      congr 2
      rw [Nat.add_mul]
      omega
theorem Kd.row_drop (l : List α) (k : Nat) : (K.row l).drop (k * K.k) = K.row (l.drop k) := by
  induction k generalizing l with
  | zero => simp [Kd.row]
  | succ k ih =>
    cases l with
    | nil => simp [Kd.row]
    | cons x r =>
      rw [K.row_cons, List.drop_succ_cons, ← ih r, List.drop_append, List.drop_of_length_le (by rw [K.len, Nat.add_mul]; omega), K.len, List.nil_append]
      congr 1
      rw [Nat.add_mul]
      omega
end

/-- A row of pieces of one's own. -/
def RowPc (w : World) (l : List Pc) (e : Ending) (w' : World) : Prop := ∃ A c, e = .returned (.slice A l.length c) ∧ w'.ownsRow w.heap.size 80 pcK.k (.slice A l.length c) l.length (pcK.row l) ∧ Below w.heap.size w w'
theorem own_none {w : World} {g : Nat} {T : TypeId} (hg : w.heap[g]? = some (.cells #[] T (0, 0))) (base : Nat) (hb : base ≤ g) : w.ownsRow base T pcK.k (.slice (some ⟨g, 0, none⟩) 0 0) 0 (pcK.row []) :=
  ⟨rfl, .inr ⟨g, 0, #[], rfl, hb, hg, Nat.le_refl _, Nat.zero_le _, rfl, rfl⟩⟩
@[simp] theorem nil_pieces (A : Option Addr) (n c : Nat) (w : World) : (binOp .eql 68 (.slice A n c) (.slice none 0 0)).run Try.prog w = .ok (.bool A.isNone) w := Lib.run_eql_slice_nil w _ _ A n c 0 0 Try.underlying68

set_option maxHeartbeats 2000000 in
theorem clone_any (A : Option Addr) (c : Nat) (l : List Pc) (w : World) (hr : pcK.Rd w A l) (hA : A = none → l = [] ∧ c = 0) (hl : l.length ≤ 100000000) :
    Calls Try.prog 94 #[.slice A l.length c] w (RowPc w l) := by
  have HR := Lib.hid hr
  clear hr
  cases A with
  | none =>
    obtain ⟨rfl, rfl⟩ := hA rfl
    have t0 : (none : Option Addr).isNone = true := rfl
    go_enter Try.func94, Try.ntmps94
    go_wp2
    go_ret
    exact ⟨none, 0, rfl, World.ownsRow_nil _ _ _ _, by first | exact Below.refl _ _ | go_grown⟩
  | some ad =>
    have t0 : (some ad).isNone = false := rfl
    go_enter Try.func94, Try.ntmps94
    go_wp2_with (at_builtin; refine Kd.wpList_many ty_piece rfl (.tmp 5) (.tmp 6) rfl w.heap.size _ 0 [] rfl (by rfl) (own_none (hp_new rfl) _ (Nat.le_refl _)) _ l.length c l rfl (fun e => by cases e) (by rfl) (HR.out.kept (by go_grown)) (by omega) (by first | (simp; done) | go_size) ?_; intro A1 c1 w1 hG; have b1 : Below w.heap.size w w1 := Below.trans (by go_grown) hG.2.2.2; have HG := Lib.hid hG.1; clear hG)
    go_ret
    have hG := HG.out
    rw [List.nil_append, Nat.zero_add] at hG
    exact ⟨A1, c1, by simp, hG, b1⟩
theorem size_piece0 : ∀ i z, Try.prog.info? 80 = some i → i.zero = some z → ∀ u ∈ z.cells.toList, u.oneCell' = true := by
  have h : (Try.prog.info? 80).map (fun i => i.zero) = some (some (.agg #[.int .u64 0, .int .u64 0, .bool false, .int .i64 0, .int .i64 0, .bool false])) := by kernel_rfl
  intro i z hi hz u hu
  rw [hi, Option.map_some, hz] at h
  simp only [Option.some.injEq] at h
  subst h
  simp [Value.cells] at hu
  rcases hu with rfl | rfl | rfl | rfl | rfl | rfl <;> rfl

end Go.Proofs.Ythdnpilkkegniaa

namespace Go.Proofs.Ythdnpilkkegniaa
open Go.RowKit Go.Maps
set_option maxRecDepth 100000

def repL (l : List Pc) (i : Nat) (x : Pc) : List Pc := l.take i ++ x :: l.drop (i + 2)
theorem repl_len {l : List Pc} {i : Nat} (hi : i + 2 ≤ l.length) (x : Pc) : (repL l i x).length = l.length - 1 := by simp [repL]; omega
def RepPost (base : Nat) (l : List Pc) (i : Nat) (x : Pc) (A : Option Addr) (c : Nat) (w : World) (e : Ending) (w' : World) : Prop := e = .returned (.slice A (l.length - 1) c) ∧ w'.ownsRow base 80 pcK.k (.slice A (l.length - 1) c) (l.length - 1) (pcK.row (repL l i x)) ∧ Below base w w'
theorem pc6_len (x : Pc) : (pc6 x).length = 6 := rfl
theorem pc6_cell (x : Pc) : ∀ u ∈ pc6 x, u.oneCell' = true := pcK.cell x
theorem pcrow_len (l : List Pc) : (pcK.row l).length = l.length * 6 := pcK.row_len l
theorem add_off (g o j : Nat) : (⟨g, o, none⟩ : Addr).add j = ⟨g, o + j, none⟩ := by unfold Addr.add; split <;> simp_all
theorem block_cell {w : World} {g : Nat} {Z : List Value} {t : TypeId} (h : w.heap[g]? = some (.cells Z.toArray t (0, 0))) (j : Nat) : w.cell? ⟨g, j, none⟩ = Z[j]? := by
  rw [cell_of_row w g j _ t (0, 0) h]
  simp
theorem src_one {w : World} {g : Nat} {x : Pc} (h : w.heap[g]? = some (.cells (pc6 x).toArray 80 (0, 0))) : ∀ j v, (pc6 x)[j]? = some v → w.cell? ((⟨g, 0, none⟩ : Addr).add j) = some v := fun j v hv => by
  rw [add_off, Nat.zero_add, block_cell h]
  exact hv

/-- The row's block, whole. -/
theorem own_whole {w : World} {base : Nat} {A : Option Addr} {n c : Nat} {l : List Pc} (h : w.ownsRow base 80 pcK.k (.slice A n c) n (pcK.row l)) (hn : 0 < n) : ∃ g Z, A = some ⟨g, 0, none⟩ ∧ base ≤ g ∧ w.heap[g]? = some (.cells (Z : List Value).toArray 80 (0, 0)) ∧ n ≤ c ∧ c ≤ maxLen ∧ Z.length = c * 6 ∧ Z.take (n * 6) = pcK.row l := by
  rcases h.2 with ⟨-, h0⟩ | ⟨g, cap, cur, h1, h2, h3, h4, h5, h6, h7⟩
  · omega
  · simp only [Value.slice.injEq, true_and] at h1
    obtain ⟨rfl, rfl⟩ := h1
    exact ⟨g, cur.toList, rfl, h2, by simpa using h3, h4, h5, by simpa using (show cur.size = c * 6 from h6), h7⟩
theorem whole_own {w : World} {base g n c : Nat} {Z : List Value} {l : List Pc} (hb : base ≤ g) (h : w.heap[g]? = some (.cells Z.toArray 80 (0, 0))) (hn : n = l.length) (hc : n ≤ c) (hm : c ≤ maxLen) (hZ : Z.length = c * 6) (ht : Z.take (n * 6) = pcK.row l) : w.ownsRow base 80 pcK.k (.slice (some ⟨g, 0, none⟩) n c) n (pcK.row l) :=
  ⟨by rw [hn]; exact pcK.row_len l, .inr ⟨g, c, Z.toArray, rfl, hb, h, hc, hm, by show _ = c * 6; simpa using hZ, by show List.take (n * 6) _ = _; simpa using ht⟩⟩
theorem take_head {Z : List Value} {l : List Pc} {n i : Nat} (ht : Z.take (n * 6) = pcK.row l) (hi : i ≤ n) : Z.take (i * 6) = pcK.row (l.take i) := by
  rw [← pcK.row_take l i, ← ht, List.take_take]
  congr 1
  show i * 6 = min (i * 6) (n * 6)
  omega
set_option maxHeartbeats 4000000 in
theorem replace_last {w : World} {base : Nat} {A : Option Addr} {c i : Nat} {l : List Pc} (x : Pc) (g' : Nat) (hown : w.ownsRow base 80 pcK.k (.slice A l.length c) l.length (pcK.row l)) (hx : w.heap[g']? = some (.cells (pc6 x).toArray 80 (0, 0))) (hi : i + 2 = l.length) (hl : l.length ≤ 100000) :
    Calls Try.prog 96 #[.slice A l.length c, .int .i64 (i : Int), .int .i64 ((i : Int) + 2), .slice (some ⟨g', 0, none⟩) 1 1] w (RepPost base l i x A c w) := by
  obtain ⟨g, Z, rfl, hb, hg, hc, hm, hZ, ht⟩ := own_whole hown (by omega)
  have hlen := repl_len (x := x) (show i + 2 ≤ l.length by omega)
  clear hown
  unfold RepPost
  rw [show l.length - 1 = i + 1 by omega]
  have ht1 := take_head ht (show i ≤ l.length by omega)
  have hlr : repL l i x = l.take i ++ [x] := by unfold repL; rw [List.drop_of_length_le (by omega)]
  rw [hlr]
  have hn1 : i + 1 = (l.take i ++ [x]).length := by simp; omega
  have hrow : pcK.row (l.take i ++ [x]) = pcK.row (l.take i) ++ pc6 x := by rw [pcK.row_append, pcK.row_one]; rfl
  have h9 : l.length = i + 2 := by omega
  rw [h9] at hc ⊢
  have hs1 : ∀ W : World, (Instr.slice 68 (.slice (some ⟨g, 0, none⟩) (i + 2) c) (some (.int .i64 (i : Int))) (some (.int .i64 ((i : Int) + 2))) none).run Try.prog W = .ok (.slice (cutK 6 (some ⟨g, 0, none⟩) c i) 2 (c - i)) W := fun W => by
    have := Kd.slice_lh ty_piece (some ⟨g, 0, none⟩) (i + 2) c (i : Int) ((i : Int) + 2) (by omega) (by omega) (by omega) W
    rw [this]
    congr 2
    omega
  have hs2 : ∀ W : World, (Instr.slice 68 (.slice (some ⟨g, 0, none⟩) (i + 2) c) none (some (.int .i64 (i : Int))) none).run Try.prog W = .ok (.slice (some ⟨g, 0, none⟩) i c) W := fun W => by
    have := Kd.slice_to ty_piece (some ⟨g, 0, none⟩) (i + 2) c (i : Int) (by omega) (by omega) W
    simpa using this
  have hs3 : ∀ W : World, (Instr.slice 68 (.slice (some ⟨g, 0, none⟩) (i + 2) c) (some (.int .i64 ((i : Int) + 1))) none none).run Try.prog W = .ok (.slice (some ⟨g, (i + 1) * 6, none⟩) 1 (c - (i + 1))) W := fun W => by
    have := Kd.slice_from ty_piece (some ⟨g, 0, none⟩) (i + 2) c ((i : Int) + 1) (by omega) (by omega) W
    rw [this, show ((i : Int) + 1).toNat = i + 1 by omega, show i + 2 - (i + 1) = 1 by omega]
    unfold cutK
    rw [if_neg (by omega), Option.map_some, add_off, Nat.zero_add]
    rfl
  generalize cutK 6 (some ⟨g, 0, none⟩) c i = C1 at hs1
  have e1 : ((i : Int) == (i : Int) + 2) = false := by rw [beq_eq_false_iff_ne]; omega
  have e3 : decide ((i : Int) + 1 < (i : Int) + 2) = true := decide_eq_true (by omega)
  have i9 : (i : Int) + 2 ≤ 100000 := by omega
  have hf1 : i * pcK.k + (pc6 x).length ≤ Z.length := by show i * 6 + 6 ≤ _; omega
  have hf2 : (i + 1) * 6 + 1 * pcK.k ≤ (splice Z (i * pcK.k) (pc6 x)).length := by rw [length_splice _ _ _ hf1]; show (i + 1) * 6 + 1 * 6 ≤ _; omega
  have HF1 := Lib.hid hf1
  have HF2 := Lib.hid hf2
  clear hf1 hf2
  have HT := Lib.hid ht1
  have HRW := Lib.hid hrow
  have HN := Lib.hid hn1
  have HC := Lib.hid hc
  have HM := Lib.hid hm
  have HZ := Lib.hid hZ
  have Hx := Lib.hid hx
  have Hg := Lib.hid hg
  clear ht ht1 hlr hrow hn1 hc hm hZ hx hg hl hi h9 hlen
  go_enter Try.func96, Try.ntmps96
  go_wp2_with (first
    | (at_builtin; refine Kd.wpList_room ty_piece rfl (.tmp 32) (.tmp 33) rfl g i c (by rfl) ⟨g', 0, none⟩ 1 1 (by rfl) Z _ Hg.out (pc6 x) rfl (src_one Hx.out) (by have := HC.out; omega) HF1.out (pc6_cell x) base w (Below.refl _ _) hb ?_; intro w1 Hg1 b1)
    | (refine Kd.wpList_clear ty_piece size_piece0 rfl (.tmp 43) rfl g ((i + 1) * 6) 1 _ (by rfl) _ _ Hg1.out (by decide) HF2.out base w b1 hb ?_; intro w2 zs hzs Hg2 b2; have HZS := Lib.hid hzs; clear hzs))
  go_ret
  have k1 := HC.out
  have k2 := HZ.out
  have k3 : (pc6 x).length = 6 := rfl
  refine ⟨rfl, whole_own hb Hg2.out HN.out (by omega) HM.out ?_ ?_, b2⟩
  · have l1 : (splice Z (i * pcK.k) (pc6 x)).length = Z.length := length_splice _ _ _ (by show i * 6 + _ ≤ _; omega)
    have l2 : zs.length = 1 * 6 := HZS.out
    rw [length_splice _ _ _ (by omega), l1, k2]
  · have l1 : (splice Z (i * pcK.k) (pc6 x)).length = Z.length := length_splice _ _ _ (by show i * 6 + _ ≤ _; omega)
    rw [splice_take _ _ _ _ (by omega) (Nat.le_refl _)]
    have := splice_upto Z (i * pcK.k) (pc6 x) (by show i * 6 ≤ _; omega)
    rw [show (i + 1) * 6 = i * pcK.k + (pc6 x).length by show _ = i * 6 + 6; omega, this, HRW.out, ← HT.out]
    rfl

theorem mid_facts {Z : List Value} {l : List Pc} {x : Pc} {c i m : Nat} (h9 : l.length = i + 2 + m) (hc : l.length ≤ c) (hZ : Z.length = c * 6) (ht : Z.take (l.length * 6) = pcK.row l) (zs : List Value) (hzs : zs.length = 1 * 6) :
    i * 6 + (pc6 x).length ≤ Z.length ∧ (∀ j v, (pcK.row (l.drop (i + 2)))[j]? = some v → (splice Z (i * 6) (pc6 x))[(i + 2) * 6 + j]? = some v) ∧ (i + 1) * 6 + (pcK.row (l.drop (i + 2))).length ≤ (splice Z (i * 6) (pc6 x)).length ∧ (i + 1 + m) * 6 + 1 * 6 ≤ (splice (splice Z (i * 6) (pc6 x)) ((i + 1) * 6) (pcK.row (l.drop (i + 2)))).length ∧
    (splice (splice (splice Z (i * 6) (pc6 x)) ((i + 1) * 6) (pcK.row (l.drop (i + 2)))) ((i + 1 + m) * 6) zs).length = c * 6 ∧ (splice (splice (splice Z (i * 6) (pc6 x)) ((i + 1) * 6) (pcK.row (l.drop (i + 2)))) ((i + 1 + m) * 6) zs).take ((i + 1 + m) * 6) = pcK.row (repL l i x) := by
  have hx : (pc6 x).length = 6 := rfl
  have hd : (pcK.row (l.drop (i + 2))).length = m * 6 := by rw [pcrow_len, List.length_drop, h9]; congr 1; omega
  have l1 : (splice Z (i * 6) (pc6 x)).length = Z.length := length_splice _ _ _ (by omega)
  have l2 : (splice (splice Z (i * 6) (pc6 x)) ((i + 1) * 6) (pcK.row (l.drop (i + 2)))).length = Z.length := by rw [length_splice _ _ _ (by omega), l1]
  refine ⟨by omega, fun j v hv => ?_, by omega, by omega, ?_, ?_⟩
  · have hj : j < m * 6 := by
      have := (List.getElem?_eq_some_iff.1 hv).1
      omega
    have e1 : (splice Z (i * 6) (pc6 x))[(i + 2) * 6 + j]? = Z[(i + 2) * 6 + j]? := by
      unfold splice
      rw [← List.append_assoc, List.getElem?_append_right (by simp; omega), List.getElem?_drop]
      congr 1
      simp
      omega
    have e2 : Z[(i + 2) * 6 + j]? = (Z.take (l.length * 6))[(i + 2) * 6 + j]? := by rw [List.getElem?_take, if_pos (by omega)]
    rw [e1, e2, ht, ← hv, ← pcK.row_drop l (i + 2), List.getElem?_drop]
    rfl
  · rw [length_splice _ _ _ (by omega), l2, hZ]
  · rw [splice_take _ _ _ _ (by omega) (Nat.le_refl _)]
    have u1 := splice_upto (splice Z (i * 6) (pc6 x)) ((i + 1) * 6) (pcK.row (l.drop (i + 2))) (by omega)
    have u2 := splice_upto Z (i * 6) (pc6 x) (by omega)
    rw [show (i + 1 + m) * 6 = (i + 1) * 6 + (pcK.row (l.drop (i + 2))).length by omega, u1, show (i + 1) * 6 = i * 6 + (pc6 x).length by omega, u2, take_head ht (by omega)]
    unfold repL
    rw [pcK.row_append, pcK.row_cons, List.append_assoc]
    rfl

set_option maxHeartbeats 8000000 in
theorem replace_mid {w : World} {base : Nat} {A : Option Addr} {c i m : Nat} {l : List Pc} (x : Pc) (g' : Nat) (hown : w.ownsRow base 80 pcK.k (.slice A l.length c) l.length (pcK.row l)) (hx : w.heap[g']? = some (.cells (pc6 x).toArray 80 (0, 0))) (h9 : l.length = i + 2 + m) (h0 : 0 < m) (hl : l.length ≤ 100000) :
    Calls Try.prog 96 #[.slice A l.length c, .int .i64 (i : Int), .int .i64 ((i : Int) + 2), .slice (some ⟨g', 0, none⟩) 1 1] w (RepPost base l i x A c w) := by
  obtain ⟨g, Z, rfl, hb, hg, hc, hm, hZ, ht⟩ := own_whole hown (by omega)
  have hlen := repl_len (show i + 2 ≤ l.length by omega) x
  clear hown
  have hmf := fun zs hzs => mid_facts (x := x) h9 hc hZ ht zs hzs
  unfold RepPost
  rw [show l.length - 1 = i + 1 + m by omega] at hlen ⊢
  rw [h9] at hc ⊢
  obtain ⟨hf1, hf2, hf3, hf4, -⟩ := hmf (List.replicate 6 undef) rfl
  have hs1 : ∀ W : World, (Instr.slice 68 (.slice (some ⟨g, 0, none⟩) (i + 2 + m) c) (some (.int .i64 (i : Int))) (some (.int .i64 ((i : Int) + 2))) none).run Try.prog W = .ok (.slice (cutK 6 (some ⟨g, 0, none⟩) c i) 2 (c - i)) W := fun W => by
    have := Kd.slice_lh ty_piece (some ⟨g, 0, none⟩) (i + 2 + m) c (i : Int) ((i : Int) + 2) (by omega) (by omega) (by omega) W
    rw [this]
    congr 2
    omega
  have hs2 : ∀ W : World, (Instr.slice 68 (.slice (some ⟨g, 0, none⟩) (i + 2 + m) c) none (some (.int .i64 (i : Int))) none).run Try.prog W = .ok (.slice (some ⟨g, 0, none⟩) i c) W := fun W => by
    have := Kd.slice_to ty_piece (some ⟨g, 0, none⟩) (i + 2 + m) c (i : Int) (by omega) (by omega) W
    simpa using this
  have hs3 : ∀ W : World, (Instr.slice 68 (.slice (some ⟨g, 0, none⟩) (i + 2 + m) c) (some (.int .i64 ((i : Int) + 2))) none none).run Try.prog W = .ok (.slice (some ⟨g, (i + 2) * 6, none⟩) m (c - (i + 2))) W := fun W => by
    have := Kd.slice_from ty_piece (some ⟨g, 0, none⟩) (i + 2 + m) c ((i : Int) + 2) (by omega) (by omega) W
    rw [this, show ((i : Int) + 2).toNat = i + 2 by omega, show i + 2 + m - (i + 2) = m by omega]
    unfold cutK
    rw [if_neg (by omega), Option.map_some, add_off, Nat.zero_add]
    rfl
  have hs4 : ∀ W : World, (Instr.slice 68 (.slice (some ⟨g, 0, none⟩) (i + 2 + m) c) none (some (.int .i64 ((i : Int) + 1 + (m : Int)))) none).run Try.prog W = .ok (.slice (some ⟨g, 0, none⟩) (i + 1 + m) c) W := fun W => by
    have := Kd.slice_to ty_piece (some ⟨g, 0, none⟩) (i + 2 + m) c ((i : Int) + 1 + (m : Int)) (by omega) (by omega) W
    rw [this, show ((i : Int) + 1 + (m : Int)).toNat = i + 1 + m by omega]
  have hs5 : ∀ W : World, (Instr.slice 68 (.slice (some ⟨g, 0, none⟩) (i + 1 + m) c) (some (.int .i64 (i : Int))) none none).run Try.prog W = .ok (.slice (some ⟨g, i * 6, none⟩) (1 + m) (c - i)) W := fun W => by
    have := Kd.slice_from ty_piece (some ⟨g, 0, none⟩) (i + 1 + m) c (i : Int) (by omega) (by omega) W
    rw [this, show (i : Int).toNat = i by omega, show i + 1 + m - i = 1 + m by omega]
    unfold cutK
    rw [if_neg (by omega), Option.map_some, add_off, Nat.zero_add]
    rfl
  have hs6 : ∀ W : World, (Instr.slice 68 (.slice (some ⟨g, 0, none⟩) (i + 1 + m) c) (some (.int .i64 ((i : Int) + 1))) none none).run Try.prog W = .ok (.slice (some ⟨g, (i + 1) * 6, none⟩) m (c - (i + 1))) W := fun W => by
    have := Kd.slice_from ty_piece (some ⟨g, 0, none⟩) (i + 1 + m) c ((i : Int) + 1) (by omega) (by omega) W
    rw [this, show ((i : Int) + 1).toNat = i + 1 by omega, show i + 1 + m - (i + 1) = m by omega]
    unfold cutK
    rw [if_neg (by omega), Option.map_some, add_off, Nat.zero_add]
    rfl
  have hs7 : ∀ W : World, (Instr.slice 68 (.slice (some ⟨g, 0, none⟩) (i + 2 + m) c) (some (.int .i64 ((i : Int) + 1 + (m : Int)))) none none).run Try.prog W = .ok (.slice (some ⟨g, (i + 1 + m) * 6, none⟩) 1 (c - (i + 1 + m))) W := fun W => by
    have := Kd.slice_from ty_piece (some ⟨g, 0, none⟩) (i + 2 + m) c ((i : Int) + 1 + (m : Int)) (by omega) (by omega) W
    rw [this, show ((i : Int) + 1 + (m : Int)).toNat = i + 1 + m by omega, show i + 2 + m - (i + 1 + m) = 1 by omega]
    unfold cutK
    rw [if_neg (by omega), Option.map_some, add_off, Nat.zero_add]
    rfl
  generalize cutK 6 (some ⟨g, 0, none⟩) c i = C1 at hs1
  have e1 : ((i : Int) == (i : Int) + 2) = false := by rw [beq_eq_false_iff_ne]; omega
  have e2 : ((i : Int) + 2 == (i : Int) + 2 + (m : Int)) = false := by rw [beq_eq_false_iff_ne]; omega
  have e3 : decide ((c : Int) < (i : Int) + 1 + (m : Int)) = false := decide_eq_false (by omega)
  have e4 : decide ((i : Int) + 1 ≤ (i : Int) + 2) = true := decide_eq_true (by omega)
  have i9 : (i : Int) + 2 + (m : Int) ≤ 100000 := by omega
  have HMF := Lib.hid hmf
  have HF1 := Lib.hid hf1
  have HF2 := Lib.hid hf2
  have HF3 := Lib.hid hf3
  have HF4 := Lib.hid hf4
  have HD := Lib.hid (show (pcK.row (l.drop (i + 2))).length = m * 6 by rw [pcrow_len, List.length_drop, h9]; congr 1; omega)
  have HC := Lib.hid hc
  have HM := Lib.hid hm
  have HZ := Lib.hid hZ
  have Hx := Lib.hid hx
  have Hg := Lib.hid hg
  have H0 := Lib.hid h0
  have HLE := Lib.hid hlen
  clear ht hc hm hZ hx hg hl h9 hmf hf1 hf2 hf3 hf4 h0 hlen
  go_enter Try.func96, Try.ntmps96
  have hn1 : (pc6 x).length = Nat.min 1 (1 + m) * pcK.k := by
    show 6 = min 1 (1 + m) * 6
    omega
  have hn2 : (pcK.row (l.drop (i + 2))).length = Nat.min m m * pcK.k := by
    rw [HD.out]
    show m * 6 = min m m * 6
    omega
  have HN1 := Lib.hid hn1
  have HN2 := Lib.hid hn2
  clear hn1 hn2
  go_wp2_with fail
  refine region_later w.heap.size (by kernel_rfl) (by kernel_rfl) ?_
  repeat (go_big_quiet_step (fail))
  refine wpQuiet_nil ?_
  intro x1
  have b1 := x1.below
  generalize x1.at = w1 at b1 ⊢
  clear x1
  have g0 := lt_of_block Hg.out
  have Hg1 := Lib.hid ((b1.block _ (lt_of_block Hg.out)).trans Hg.out)
  have Hx1 := Lib.hid ((b1.block _ (lt_of_block Hx.out)).trans Hx.out)
  clear Hg Hx
  go_wp2_with (refine Kd.wpList_copy ty_piece rfl (.tmp 95) (.tmp 96) rfl _ _ _ _ _ _ (by rfl) (by rfl) g (i * 6) Z _ Hg1.out (pc6 x) HN1.out (fun _ => ⟨rfl, _, rfl, src_one Hx1.out⟩) HF1.out (pc6_cell x) base w1 (Below.refl _ _) hb ?_; intro w2 v2 Hg2 b2)
  have z2 := b2.size
  have z1 := b1.size
  try go_frame
  refine region_tail 9 w2.heap.size (by kernel_rfl) (by kernel_rfl) ?_
  simp only [List.take_succ_cons, List.take_zero, List.drop_succ_cons, List.drop_zero]
  repeat (go_big_quiet_step (fail))
  refine wpQuiet_nil ?_
  intro x2
  have b3 := x2.below
  generalize x2.at = w3 at b3 ⊢
  clear x2
  have Hg3 := Lib.hid ((b3.block _ (lt_of_block Hg2.out)).trans Hg2.out)
  have HS := Lib.hid (fun j v (hv : (pcK.row (l.drop (i + 2)))[j]? = some v) => show w3.cell? ((⟨g, (i + 2) * 6, none⟩ : Addr).add j) = some v by rw [add_off, block_cell Hg3.out]; exact HF2.out j v hv)
  clear Hg1 Hx1 Hg2
  go_wp2_with (first
    | (refine Kd.wpList_copy ty_piece rfl (.tmp 103) (.tmp 106) rfl _ _ _ _ _ _ (by rfl) (by rfl) g ((i + 1) * 6) _ _ Hg3.out (pcK.row (l.drop (i + 2))) HN2.out (fun _ => ⟨rfl, _, rfl, HS.out⟩) HF3.out (pcK.row_cell _) base w3 (Below.refl _ _) hb ?_; intro w4 v4 Hg4 b4)
    | (refine Kd.wpList_clear ty_piece size_piece0 rfl (.tmp 110) rfl g ((i + 1 + m) * 6) 1 _ (by rfl) _ _ Hg4.out (by decide) HF4.out base w3 b4 hb ?_; intro w5 zs hzs Hg5 b5; have HZS := Lib.hid hzs; clear hzs))
  go_ret
  obtain ⟨-, -, -, -, m5, m6⟩ := HMF.out zs HZS.out
  have k1 := HC.out
  exact ⟨rfl, whole_own hb Hg5.out HLE.out.symm (by omega) HM.out m5 m6, ((b1.mono (by omega)).trans b2).trans ((b3.mono (by omega)).trans b5)⟩

theorem replace_any {w : World} {base : Nat} {A : Option Addr} {c i : Nat} {l : List Pc} (x : Pc) (g' : Nat) (hown : w.ownsRow base 80 pcK.k (.slice A l.length c) l.length (pcK.row l)) (hx : w.heap[g']? = some (.cells (pc6 x).toArray 80 (0, 0))) (hi : i + 2 ≤ l.length) (hl : l.length ≤ 100000) :
    Calls Try.prog 96 #[.slice A l.length c, .int .i64 (i : Int), .int .i64 ((i : Int) + 2), .slice (some ⟨g', 0, none⟩) 1 1] w (RepPost base l i x A c w) := by
  rcases Nat.eq_or_lt_of_le hi with h | h
  · exact replace_last x g' hown hx h hl
  · exact replace_mid (m := l.length - (i + 2)) x g' hown hx (by omega) (by omega) hl

end Go.Proofs.Ythdnpilkkegniaa

namespace Go.Proofs.Ythdnpilkkegniaa
open Go.RowKit Go.Maps
set_option maxRecDepth 100000

set_option maxHeartbeats 1000000 in
theorem cat1_any {w : World} {b : Nat} {a : Ad} (hA : ABox w b a) (x : Pc) : Calls Try.prog 92 #[.agg #[.int .u64 (u x.p.a.hi), .int .u64 (u x.p.a.lo), .bool x.p.a.v6, .int .i64 x.p.n, .int .i64 x.h, .bool x.r], .pointer (some ⟨b, 0, none⟩)] w fun e w' => e = .returned (.bool (pcon x.p a)) ∧ Below w.heap.size w w' := by
  obtain ⟨pa, pb, pc, pz⟩ := hA
  have n1 : ¬ b = w.heap.size := by omega
  go_enter Try.func92, Try.ntmps92
  go_wp2_with fail
  refine (pcon_any x.p a _).mono ?_
  rintro e w1 ⟨rfl, hw1⟩
  have b1 : Below w.heap.size w w1 := below_of (by go_grown) hw1
  go_wp2
  go_ret
  exact ⟨rfl, b1⟩
/-- Where the first one stands, or -1. -/
def IdxPost (l : List Pc) (a : Ad) (w : World) (e : Ending) (w' : World) : Prop :=
  Below w.heap.size w w' ∧ ((e = .returned (.int .i64 (-1)) ∧ ∀ j, (hj : j < l.length) → pcon l[j].p a = false) ∨ ∃ k, ∃ hk : k < l.length, e = .returned (.int .i64 (k : Int)) ∧ pcon l[k].p a = true ∧ ∀ j, (hj : j < k) → pcon (l[j]'(by omega)).p a = false)
set_option maxHeartbeats 2000000 in
theorem cindex_any {w : World} {b : Nat} {a : Ad} (hA : ABox w b a) (A : Option Addr) (c : Nat) (l : List Pc) (hr : pcK.Rd w A l) (hl : l.length ≤ 100000000) :
    Calls Try.prog 91 #[.slice A l.length c, .func (.func 92) #[] #[.pointer (some ⟨b, 0, none⟩)]] w (IdxPost l a w) := by
  have HA := Lib.hid hA
  have HR := Lib.hid hr
  clear hA hr
  unfold IdxPost
  go_enter Try.func91, Try.ntmps91
  go_wp2_with fail
  go_loopw [8] (fun i wr => ∃ k : Nat, k ≤ l.length ∧ i = .int .i64 k ∧ Hid (∀ j, (hj : j < k) → ∀ h : j < l.length, pcon l[j].p a = false) ∧ Below w.heap.size w wr) (fun i _ => l.length - (intOf i).toNat)
  case atStart => exact ⟨0, Nat.zero_le _, rfl, Lib.hid (fun j hj => absurd hj (Nat.not_lt_zero _)), Below.refl _ _⟩
  case round =>
    obtain ⟨k, hk, rfl, hno, hB⟩ := hrel
    by_cases hlt : k < l.length
    · have hlt' : (k : Int) < (l.length : Int) := by omega
      have hk0 : (0 : Int) ≤ (k : Int) := by omega
      have hk9 : (k : Int) + 1 ≤ 1000000000 := by omega
      obtain ⟨ag, ao, ae, az, a0, a1, a2, a3, a4, a5⟩ := rd6 (HR.out.keep hB (Nat.le_refl _)) hlt
      subst ae
      have HLK := Lib.hid (fun x (hx : x = l[k]) => hx)
      have ca := fun x => cat1_any (w := wr) (HA.out.keep hB) x
      have HX := Lib.hid (rfl : l[k] = l[k])
      obtain ⟨x, hx⟩ : ∃ x, l[k] = x := ⟨_, rfl⟩
      rw [hx] at a0 a1 a2 a3 a4 a5
      have CA := Lib.hid (ca x)
      have HXX := Lib.hid hx
      have HB := Lib.hid hB
      clear ca hx HX HLK
      cases hc : pcon x.p a
      · have ca := CA.out
        rw [hc] at ca
        have CB := Lib.hid ca
        have HC := Lib.hid hc
        clear ca hc CA
        go_wp2_with fail
        refine (CB.out).mono ?_
        rintro e w2 ⟨rfl, hw2⟩
        have b2 := HB.out.trans (hw2.mono HB.out.size)
        clear hw2 a0 a1 a2 a3 a4 a5
        go_wp2
        go_roundw
        case rel => exact ⟨k + 1, by omega, by go_num, Lib.hid (fun j hj h => by
          rcases Nat.lt_or_eq_of_le (Nat.le_of_lt_succ hj) with e | e
          · exact hno.out j e h
          · subst e
            rw [HXX.out]
            exact HC.out), b2⟩
        case measure => simp [intOf]; omega
      · have ca := CA.out
        rw [hc] at ca
        have CB := Lib.hid ca
        have HC := Lib.hid hc
        clear ca hc CA
        go_wp2_with fail
        refine (CB.out).mono ?_
        rintro e w2 ⟨rfl, hw2⟩
        have b2 := HB.out.trans (hw2.mono HB.out.size)
        clear hw2 a0 a1 a2 a3 a4 a5
        go_wp2
        go_ret
        exact ⟨b2, .inr ⟨k, hlt, rfl, by rw [HXX.out]; exact HC.out, fun j hj => hno.out j hj (by omega)⟩⟩
    · obtain rfl : k = l.length := by omega
      have hlt' : ¬ (l.length : Int) < (l.length : Int) := by omega
      go_wp2
      go_ret
      exact ⟨hB, .inl ⟨rfl, fun j hj => hno.out j hj hj⟩⟩
theorem atL_none {l : List Pc} {a : Ad} (h : ∀ j, (hj : j < l.length) → pcon l[j].p a = false) : atL l a = none := by
  unfold atL
  rw [List.find?_eq_none]
  intro x hx
  obtain ⟨j, hj, rfl⟩ := List.mem_iff_getElem.1 hx
  rw [h j hj]
  decide
theorem atL_some {l : List Pc} {a : Ad} {k : Nat} (hk : k < l.length) (h : pcon l[k].p a = true) (hn : ∀ j, (hj : j < k) → pcon (l[j]'(by omega)).p a = false) : atL l a = some l[k] := by
  unfold atL
  rw [List.find?_eq_some_iff_getElem]
  exact ⟨h, k, hk, rfl, fun j hj => by rw [hn j hj]; rfl⟩
def AtPost (w : World) (o : Option Pc) (e : Ending) (w' : World) : Prop := e = .returned (.tuple #[.agg #[.int .u64 (u (o.getD nilPc).p.a.hi), .int .u64 (u (o.getD nilPc).p.a.lo), .bool (o.getD nilPc).p.a.v6, .int .i64 (o.getD nilPc).p.n, .int .i64 (o.getD nilPc).h, .bool (o.getD nilPc).r], .bool o.isSome]) ∧ Below w.heap.size w w'
set_option maxHeartbeats 2000000 in
theorem cat_any (A : Option Addr) (c : Nat) (l : List Pc) (a : Ad) (w : World) (hr : pcK.Rd w A l) (hl : l.length ≤ 100000000) :
    Calls Try.prog 37 #[.slice A l.length c, .agg #[.int .u64 (u a.hi), .int .u64 (u a.lo), .bool a.v6]] w (AtPost w (atL l a)) := by
  have HR := Lib.hid hr
  clear hr
  unfold AtPost
  go_enter Try.func37, Try.ntmps37
  go_upto_region 1 with fail
  generalize hV : World.alloc _ _ = w1
  have b1 : Below w.heap.size w w1 := by subst hV; go_grown
  have HA1 : Hid (ABox w1 w.heap.size a) := Lib.hid (by subst hV; exact ⟨by go_simp <;> rfl, by go_simp <;> rfl, by go_simp <;> rfl, by go_size⟩)
  have Hq1 : Hid (CBox w1 (w.heap.size + 1) nilPc) := Lib.hid (by subst hV; unfold CBox; repeat (first | (refine hp_new ?_; (simp; done)) | (refine hp_old ?_ ?_; · (first | (simp; done) | (simp; omega)))))
  have hr1 := HR.out.keep b1 (Nat.le_refl _)
  have HR1 := Lib.hid hr1
  clear hV hr1 HR
  go_wp2_with fail
  refine (cindex_any (HA1.out) A c l HR1.out hl).mono ?_
  rintro e w2 ⟨hw2, hcase⟩
  have b2 := b1.trans (hw2.mono b1.size)
  have z2 := b2.size
  have HR2 := Lib.hid (HR1.out.kept hw2)
  have Hq2 := Lib.hid (Hq1.out.keep hw2)
  clear hw2 HR1 HA1 Hq1 b1
  rcases hcase with ⟨rfl, hn⟩ | ⟨k, hk, rfl, hc, hn⟩
  · have HO := Lib.hid (atL_none hn)
    clear hn
    go_upto_region 3 with fail
    go_wp2_with (refine wpList_row rfl _ _ _ rfl (w.heap.size + 1) _ rfl rfl 80 _ (Hq2.out) 6 size_piece rfl rfl rfl ?_; intro w9 h9 f9; have b9 : Below w.heap.size w w9 := b2.trans (f9.below (fun b hb => by omega) (by omega)); have q0 := cell_row (i := 0) h9; have q1 := cell_row (i := 1) h9; have q2 := cell_row (i := 2) h9; have q3 := cell_row (i := 3) h9; have q4 := cell_row (i := 4) h9; have q5 := cell_row (i := 5) h9; simp at q0 q1 q2 q3 q4 q5; clear f9)
    refine bodyPost_ret (v := .tuple #[.agg #[.int .u64 0, .int .u64 0, .bool false, .int .i64 0, .int .i64 0, .bool false], .bool false]) (by simp [*, results, Try.results37, go_sem] <;> rfl) rfl ⟨by rw [HO.out]; rfl, b9⟩
  · have HO := Lib.hid (atL_some hk hc hn)
    have hk' : (k : Int) < (l.length : Int) := by omega
    have hk0 : (0 : Int) ≤ (k : Int) := by omega
    have t0 : decide ((k : Int) < 0) = false := decide_eq_false (by omega)
    obtain ⟨ag, ao, ae, az, a0, a1, a2, a3, a4, a5⟩ := rd6 (HR2.out) hk
    subst ae
    obtain ⟨x, hx⟩ : ∃ x, l[k] = x := ⟨_, rfl⟩
    rw [hx] at a0 a1 a2 a3 a4 a5 HO
    clear hn hc hx
    go_upto_region 4 with fail
    go_wp2_with (refine wpList_row rfl _ _ _ rfl (w.heap.size + 1) _ rfl rfl 80 _ (Hq2.out) 6 size_piece rfl rfl rfl ?_; intro w9 h9 f9; have b9 : Below w.heap.size w w9 := b2.trans (f9.below (fun b hb => by omega) (by omega)); have q0 := cell_row (i := 0) h9; have q1 := cell_row (i := 1) h9; have q2 := cell_row (i := 2) h9; have q3 := cell_row (i := 3) h9; have q4 := cell_row (i := 4) h9; have q5 := cell_row (i := 5) h9; simp at q0 q1 q2 q3 q4 q5; clear f9)
    refine bodyPost_ret (v := .tuple #[.agg #[.int .u64 (u x.p.a.hi), .int .u64 (u x.p.a.lo), .bool x.p.a.v6, .int .i64 x.p.n, .int .i64 x.h, .bool x.r], .bool true]) (by simp [*, results, Try.results37, go_sem] <;> rfl) rfl ⟨by rw [HO.out]; rfl, b9⟩

end Go.Proofs.Ythdnpilkkegniaa

namespace Go.Proofs.Ythdnpilkkegniaa
open Go.RowKit Go.Maps
set_option maxRecDepth 100000

theorem idx_piece (g n c k : Nat) (h : k < n) (V : World) : (Instr.indexAt 68 (.slice (some ⟨g, 0, none⟩) n c) (.int .i64 (k : Int))).run Try.prog V = .ok (.pointer (some ⟨g, k * 6, none⟩)) V := by
  have h0 : (0 : Int) ≤ (k : Int) := by omega
  have h1 : (k : Int) < (n : Int) := by omega
  go_simp
/-- What holds at the label. -/
def SqzI (w0 : World) (l0 m : List Pc) (A : Option Addr) (c : Nat) (w : World) : Prop := w.ownsRow w0.heap.size 80 pcK.k (.slice A m.length c) m.length (pcK.row m) ∧ sqz m = sqz l0 ∧ m.length ≤ l0.length ∧ Below w0.heap.size w0 w
def SqzJ (w0 : World) (l0 : List Pc) (a : Act) (w : World) : Prop := ∃ m A c, SqzI w0 l0 m A c w ∧ ∃ u1 u3 u4 u5 u6 u7 u8 u9 u10 u11 u12 u13 u14 u15 u16 u17 u18 u19 u20 u21 u22 u23 u24 u25 u26 u27 u28 u29 u30 u31 u32 u33 u34 u35 u36 : Value, a = { tmps := #[.slice A m.length c, u1, .slice none 0 0, u3, u4, u5, u6, u7, u8, u9, u10, u11, u12, u13, u14, u15, u16, u17, u18, u19, u20, u21, u22, u23, u24, u25, u26, u27, u28, u29, u30, u31, u32, u33, u34, u35, u36], defers := [] }
theorem sqz_lt {w0 w : World} {l0 m : List Pc} {A : Option Addr} {c : Nat} (h : SqzI w0 l0 m A c w) {i : Nat} (hi : i < m.length) : ∃ g, A = some ⟨g, 0, none⟩ ∧ w0.heap.size ≤ g ∧ PcR w g m := by
  rcases h.1.2 with ⟨-, h0⟩ | ⟨g, cap, cur, h1, h2, -⟩
  · omega
  · simp only [Value.slice.injEq, true_and] at h1
    obtain ⟨rfl, rfl⟩ := h1
    exact ⟨g, rfl, h2, PcR.of h.1 rfl⟩
theorem keep12 {W w' : World} {g k : Nat} {x y : Pc} (h : Below W.heap.size W w') (hx : EBox W g (k * 6) x) (hy : EBox W g ((k + 1) * 6) y) :
    w'.cell? ⟨g, k * 6, none⟩ = some (.int .u64 (u x.p.a.hi)) ∧ w'.cell? ⟨g, k * 6 + 1, none⟩ = some (.int .u64 (u x.p.a.lo)) ∧ w'.cell? ⟨g, k * 6 + 2, none⟩ = some (.bool x.p.a.v6) ∧ w'.cell? ⟨g, k * 6 + 3, none⟩ = some (.int .i64 x.p.n) ∧ w'.cell? ⟨g, k * 6 + 4, none⟩ = some (.int .i64 x.h) ∧ w'.cell? ⟨g, k * 6 + 5, none⟩ = some (.bool x.r) ∧
    w'.cell? ⟨g, (k + 1) * 6, none⟩ = some (.int .u64 (u y.p.a.hi)) ∧ w'.cell? ⟨g, (k + 1) * 6 + 1, none⟩ = some (.int .u64 (u y.p.a.lo)) ∧ w'.cell? ⟨g, (k + 1) * 6 + 2, none⟩ = some (.bool y.p.a.v6) ∧ w'.cell? ⟨g, (k + 1) * 6 + 3, none⟩ = some (.int .i64 y.p.n) ∧ w'.cell? ⟨g, (k + 1) * 6 + 4, none⟩ = some (.int .i64 y.h) ∧ w'.cell? ⟨g, (k + 1) * 6 + 5, none⟩ = some (.bool y.r) ∧ Below W.heap.size W w' := by
  obtain ⟨c0, c1, c2, c3, c4, c5, -⟩ := hx.keep h
  obtain ⟨d0, d1, d2, d3, d4, d5, -⟩ := hy.keep h
  exact ⟨c0, c1, c2, c3, c4, c5, d0, d1, d2, d3, d4, d5, h⟩

theorem y6_then {G : Prop} {W w1 : World} {b : Nat} {c0 c1 c2 c3 c4 c5 : Value} (hb : Below W.heap.size W w1) (hlt : b < W.heap.size) (h0 : W.cell? ⟨b, 0, none⟩ = some c0) (h1 : W.cell? ⟨b, 1, none⟩ = some c1) (h2 : W.cell? ⟨b, 2, none⟩ = some c2) (h3 : W.cell? ⟨b, 3, none⟩ = some c3) (h4 : W.cell? ⟨b, 4, none⟩ = some c4) (h5 : W.cell? ⟨b, 5, none⟩ = some c5)
    (f0 : W.frozen? ⟨b, 0, none⟩ = false) (f1 : W.frozen? ⟨b, 1, none⟩ = false) (f2 : W.frozen? ⟨b, 2, none⟩ = false) (f3 : W.frozen? ⟨b, 3, none⟩ = false) (f4 : W.frozen? ⟨b, 4, none⟩ = false) (f5 : W.frozen? ⟨b, 5, none⟩ = false)
    (k : w1.cell? ⟨b, 0, none⟩ = some c0 ∧ w1.cell? ⟨b, 1, none⟩ = some c1 ∧ w1.cell? ⟨b, 2, none⟩ = some c2 ∧ w1.cell? ⟨b, 3, none⟩ = some c3 ∧ w1.cell? ⟨b, 4, none⟩ = some c4 ∧ w1.cell? ⟨b, 5, none⟩ = some c5 ∧
      w1.frozen? ⟨b, 0, none⟩ = false ∧ w1.frozen? ⟨b, 1, none⟩ = false ∧ w1.frozen? ⟨b, 2, none⟩ = false ∧ w1.frozen? ⟨b, 3, none⟩ = false ∧ w1.frozen? ⟨b, 4, none⟩ = false ∧ w1.frozen? ⟨b, 5, none⟩ = false ∧ b < w1.heap.size → G) : G :=
  k ⟨(hb.cell (p := ⟨b, 0, none⟩) hlt).trans h0, (hb.cell (p := ⟨b, 1, none⟩) hlt).trans h1, (hb.cell (p := ⟨b, 2, none⟩) hlt).trans h2, (hb.cell (p := ⟨b, 3, none⟩) hlt).trans h3, (hb.cell (p := ⟨b, 4, none⟩) hlt).trans h4, (hb.cell (p := ⟨b, 5, none⟩) hlt).trans h5,
    (hb.frozen (p := ⟨b, 0, none⟩) hlt).trans f0, (hb.frozen (p := ⟨b, 1, none⟩) hlt).trans f1, (hb.frozen (p := ⟨b, 2, none⟩) hlt).trans f2, (hb.frozen (p := ⟨b, 3, none⟩) hlt).trans f3, (hb.frozen (p := ⟨b, 4, none⟩) hlt).trans f4, (hb.frozen (p := ⟨b, 5, none⟩) hlt).trans f5, Nat.lt_of_lt_of_le hlt hb.size⟩
theorem el_of {m : List Pc} {k : Nat} {x : Pc} (h : m[k]? = some x) : m[k]'((List.getElem?_eq_some_iff.1 h).1) = x := (List.getElem?_eq_some_iff.1 h).2
/-- The cells of a piece in a block. -/
def SBox (w : World) (b : Nat) (x : Pc) : Prop := w.cell? ⟨b, 0, none⟩ = some (.int .u64 (u x.p.a.hi)) ∧ w.cell? ⟨b, 1, none⟩ = some (.int .u64 (u x.p.a.lo)) ∧ w.cell? ⟨b, 2, none⟩ = some (.bool x.p.a.v6) ∧ w.cell? ⟨b, 3, none⟩ = some (.int .i64 x.p.n) ∧ w.cell? ⟨b, 4, none⟩ = some (.int .i64 x.h) ∧ w.cell? ⟨b, 5, none⟩ = some (.bool x.r) ∧ b < w.heap.size

set_option maxHeartbeats 8000000 in
theorem sqz_walk (A0 : Option Addr) (c0 : Nat) (l0 : List Pc) (w : World) (hr : pcK.Rd w A0 l0) (hA : A0 = none → l0 = [] ∧ c0 = 0) (hl : l0.length ≤ 100000) :
    Calls Try.prog 40 #[.slice A0 l0.length c0] w (RowPc w (sqz l0)) := by
  have HR := Lib.hid hr
  have HL := Lib.hid hl
  clear hr hl
  go_enter Try.func40, Try.ntmps40
  go_wp2
  refine wp_scope_jumps 0 (SqzJ w l0) (fun a' _ => match a'.tmps.getD 0 undef with | .slice _ n _ => n | _ => 0) rfl ?_ ?_
  · go_wp2_with fail
    refine (clone_any A0 c0 l0 w HR.out hA (by have := HL.out; omega)).mono ?_
    rintro e w1 ⟨A, c, rfl, ho, b1⟩
    have HI := Lib.hid (show SqzI w l0 l0 A c w1 from ⟨ho, rfl, Nat.le_refl _, b1⟩)
    clear ho b1 HR
    obtain ⟨m, hm⟩ : ∃ m, m = l0 := ⟨_, rfl⟩
    rw [show l0.length = m.length by rw [hm]]
    have HI := Lib.hid (show SqzI w l0 m A c w1 by rw [hm]; exact HI.out)
    clear hm
    have hm9 : (m.length : Int) - 1 ≤ 100000 := by have := HI.out.2.2.1; have := HL.out; omega
    have hm8 : -1 ≤ (m.length : Int) - 1 := by omega
    go_wp2
    go_step3
    go_wp2_with fail
    go_loopw [0, 11] (fun v i wr => v = .slice A m.length c ∧ ∃ k : Nat, i = .int .i64 k ∧ (k = 0 ∨ k + 1 ≤ m.length) ∧ Hid (∀ j, (h : j + 1 < m.length) → j < k → pairP m[j] m[j + 1] = false) ∧ Below w1.heap.size w1 wr) (fun _ i _ => m.length - (intOf i).toNat)
    case atStart => exact ⟨rfl, 0, rfl, .inl rfl, Lib.hid (fun j _ h => absurd h (Nat.not_lt_zero _)), Below.refl _ _⟩
    case round =>
      obtain ⟨rfl, k, rfl, hk, hno, hB⟩ := hrel
      by_cases hlt : k + 1 < m.length
      · have hlt' : decide ((k : Int) < (m.length : Int) - 1) = true := decide_eq_true (by omega)
        have hk9 : (k : Int) + 2 ≤ 200000 := by omega
        obtain ⟨W, rfl⟩ : ∃ W, W = wr := ⟨_, rfl⟩
        obtain ⟨g, rfl, hg, hP⟩ := sqz_lt HI.out (i := k) (by omega)
        have hP' := hP.keep hB
        obtain ⟨x, hx⟩ : ∃ x, m[k] = x := ⟨_, rfl⟩
        obtain ⟨y, hy⟩ : ∃ y, m[k + 1] = y := ⟨_, rfl⟩
        have hX : EBox W g (k * 6) x := by
          obtain ⟨c0, c1, c2, c3, c4, c5⟩ := hP'.2 k (by omega)
          rw [hx] at c0 c1 c2 c3 c4 c5
          exact ⟨c0, c1, c2, c3, c4, c5, hP'.1⟩
        have hY : EBox W g ((k + 1) * 6) y := by
          obtain ⟨c0, c1, c2, c3, c4, c5⟩ := hP'.2 (k + 1) hlt
          rw [hy] at c0 c1 c2 c3 c4 c5
          exact ⟨c0, c1, c2, c3, c4, c5, hP'.1⟩
        have HX := Lib.hid hX
        have HY := Lib.hid hY
        have cj := fun W => joined_any x y W
        unfold joinV at cj
        have HXX := Lib.hid (show m[k]? = some x by rw [List.getElem?_eq_getElem (by omega), hx])
        have HYY := Lib.hid (show m[k + 1]? = some y by rw [List.getElem?_eq_getElem hlt, hy])
        have HB := Lib.hid hB
        have HLT := Lib.hid hlt
        have HK := Lib.hid hk
        clear hP hP' hX hY hx hy hB hk hlt
        cases hpr : pairP x y
        · simp only [hpr, Bool.false_eq_true, if_false] at cj
          have CJ := Lib.hid cj
          have HPR := Lib.hid hpr
          clear cj hpr
          go_upto_region 5 with fail
          clear hlt'
          have hk1 := fun V => idx_piece g m.length c k (by have := HLT.out; omega) V
          have hk2 := fun V => idx_piece g m.length c (k + 1) HLT.out V
          rw [show ((k + 1 : Nat) : Int) = (k : Int) + 1 by omega] at hk2
          have hk0 : IntKind.i64.wrap ((k : Int) + 1) = (k : Int) + 1 := by rw [IntKind.wrap_i64]; omega
          go_cut [4, 5] (fun b s wx => s = .bool false ∧ (∃ q, b = .pointer (some ⟨q, 0, none⟩)) ∧ Below W.heap.size W wx)
          case first =>
            go_region_held3 (fun w' => w'.cell? ⟨g, k * 6, none⟩ = some (.int .u64 (u x.p.a.hi)) ∧ w'.cell? ⟨g, k * 6 + 1, none⟩ = some (.int .u64 (u x.p.a.lo)) ∧ w'.cell? ⟨g, k * 6 + 2, none⟩ = some (.bool x.p.a.v6) ∧ w'.cell? ⟨g, k * 6 + 3, none⟩ = some (.int .i64 x.p.n) ∧ w'.cell? ⟨g, k * 6 + 4, none⟩ = some (.int .i64 x.h) ∧ w'.cell? ⟨g, k * 6 + 5, none⟩ = some (.bool x.r) ∧ w'.cell? ⟨g, (k + 1) * 6, none⟩ = some (.int .u64 (u y.p.a.hi)) ∧ w'.cell? ⟨g, (k + 1) * 6 + 1, none⟩ = some (.int .u64 (u y.p.a.lo)) ∧ w'.cell? ⟨g, (k + 1) * 6 + 2, none⟩ = some (.bool y.p.a.v6) ∧ w'.cell? ⟨g, (k + 1) * 6 + 3, none⟩ = some (.int .i64 y.p.n) ∧ w'.cell? ⟨g, (k + 1) * 6 + 4, none⟩ = some (.int .i64 y.h) ∧ w'.cell? ⟨g, (k + 1) * 6 + 5, none⟩ = some (.bool y.r) ∧ Below W.heap.size W w')
              (first | exact keep12 hk5 HX.out HY.out | (refine keep12 ?_ HX.out HY.out; go_grown))
              ((go_at_call 95; refine (CJ.out _).mono ?_; rintro e w5 ⟨rfl, hw5⟩; have hk5 := below_of (w := W) (by go_grown) hw5; have zk5 := hk5.size; (try (refine y6_then (b := W.heap.size) (c0 := .int .u64 0) (c1 := .int .u64 0) (c2 := .bool false) (c3 := .int .i64 0) (c4 := .int .i64 0) (c5 := .bool false) hw5 ?_ ?_ ?_ ?_ ?_ ?_ ?_ ?_ ?_ ?_ ?_ ?_ ?_ (fun y4 => ?_); go_size; go_simp; go_simp; go_simp; go_simp; go_simp; go_simp; go_simp; go_simp; go_simp; go_simp; go_simp; go_simp; obtain ⟨ya, yb, yc, yg, yi, yk, yd, ye, yf, yh, yj, yl, yz⟩ := y4))))
            all_goals (go_wp2_with fail; go_meet)
            all_goals exact ⟨rfl, ⟨_, rfl⟩, by go_grown⟩
          case rest =>
            obtain ⟨rfl, ⟨q, rfl⟩, hbc⟩ := hcut
            clear hk1 hk2 hk0
            go_wp2
            go_roundw
            case rel => exact ⟨rfl, k + 1, by go_num, .inr (by have := HLT.out; omega), Lib.hid (fun j h hj => by
              rcases Nat.lt_or_eq_of_le (Nat.le_of_lt_succ hj) with e | e
              · exact hno.out j h e
              · subst e
                rw [el_of HXX.out, el_of HYY.out]
                exact HPR.out), HB.out.trans (hbc.mono HB.out.size)⟩
            case measure => simp [intOf]; have := HLT.out; omega
        · simp only [hpr, if_true] at cj
          have CJ := Lib.hid cj
          have HPR := Lib.hid hpr
          clear cj hpr
          go_upto_region 5 with fail
          clear hlt'
          have hk1 := fun V => idx_piece g m.length c k (by have := HLT.out; omega) V
          have hk2 := fun V => idx_piece g m.length c (k + 1) HLT.out V
          rw [show ((k + 1 : Nat) : Int) = (k : Int) + 1 by omega] at hk2
          have hk0 : IntKind.i64.wrap ((k : Int) + 1) = (k : Int) + 1 := by rw [IntKind.wrap_i64]; omega
          go_cut [4, 5] (fun b s wx => s = .bool true ∧ (∃ q, b = .pointer (some ⟨q, 0, none⟩) ∧ W.heap.size ≤ q ∧ SBox wx q (upP x)) ∧ Below W.heap.size W wx)
          case first =>
            go_region_held3 (fun w' => w'.cell? ⟨g, k * 6, none⟩ = some (.int .u64 (u x.p.a.hi)) ∧ w'.cell? ⟨g, k * 6 + 1, none⟩ = some (.int .u64 (u x.p.a.lo)) ∧ w'.cell? ⟨g, k * 6 + 2, none⟩ = some (.bool x.p.a.v6) ∧ w'.cell? ⟨g, k * 6 + 3, none⟩ = some (.int .i64 x.p.n) ∧ w'.cell? ⟨g, k * 6 + 4, none⟩ = some (.int .i64 x.h) ∧ w'.cell? ⟨g, k * 6 + 5, none⟩ = some (.bool x.r) ∧ w'.cell? ⟨g, (k + 1) * 6, none⟩ = some (.int .u64 (u y.p.a.hi)) ∧ w'.cell? ⟨g, (k + 1) * 6 + 1, none⟩ = some (.int .u64 (u y.p.a.lo)) ∧ w'.cell? ⟨g, (k + 1) * 6 + 2, none⟩ = some (.bool y.p.a.v6) ∧ w'.cell? ⟨g, (k + 1) * 6 + 3, none⟩ = some (.int .i64 y.p.n) ∧ w'.cell? ⟨g, (k + 1) * 6 + 4, none⟩ = some (.int .i64 y.h) ∧ w'.cell? ⟨g, (k + 1) * 6 + 5, none⟩ = some (.bool y.r) ∧ Below W.heap.size W w')
              (first | exact keep12 hk5 HX.out HY.out | (refine keep12 ?_ HX.out HY.out; go_grown))
              ((go_at_call 95; refine (CJ.out _).mono ?_; rintro e w5 ⟨rfl, hw5⟩; have hk5 := below_of (w := W) (by go_grown) hw5; have zk5 := hk5.size; (try (refine y6_then (b := W.heap.size) (c0 := .int .u64 0) (c1 := .int .u64 0) (c2 := .bool false) (c3 := .int .i64 0) (c4 := .int .i64 0) (c5 := .bool false) hw5 ?_ ?_ ?_ ?_ ?_ ?_ ?_ ?_ ?_ ?_ ?_ ?_ ?_ (fun y4 => ?_); go_size; go_simp; go_simp; go_simp; go_simp; go_simp; go_simp; go_simp; go_simp; go_simp; go_simp; go_simp; go_simp; obtain ⟨ya, yb, yc, yg, yi, yk, yd, ye, yf, yh, yj, yl, yz⟩ := y4))))
            all_goals (go_wp2_with fail; go_meet)
            all_goals
              refine ⟨rfl, ⟨_, rfl, ?_, ?_, ?_, ?_, ?_, ?_, ?_, ?_⟩, by go_grown⟩
              all_goals first | (go_simp; done) | (go_simp <;> rfl) | go_size | omega
          case rest =>
            obtain ⟨rfl, ⟨q, rfl, hq, s0, s1, s2, s3, s4, s5, sz⟩, hbc⟩ := hcut
            clear hk1 hk2 hk0
            have hb9 := HB.out.trans (hbc.mono HB.out.size)
            have ho9 := own_block HI.out.1 (fun b _ hl => hb9.block b hl)
            have HO := Lib.hid ho9
            have HB9 := Lib.hid hb9
            clear ho9 hb9 hbc
            obtain ⟨X, hXX⟩ : ∃ X, upP x = X := ⟨_, rfl⟩
            rw [hXX] at s0 s1 s2 s3 s4 s5
            have HUP := Lib.hid hXX
            clear hXX
            obtain ⟨W9, rfl⟩ : ∃ W9, W9 = wc := ⟨_, rfl⟩
            go_wp2_with fail
            refine (replace_any (base := w.heap.size) (i := k) X W9.heap.size (own_block HO.out (fun b _ hl => Below.block (B := W9.heap.size) (w := W9) (by go_grown) b hl)) (hp_new rfl) (by have := HLT.out; omega) (by have := HI.out.2.2.1; have := HL.out; omega)).mono ?_
            rintro e w9 ⟨rfl, ho, hb⟩
            have hone : oneL m = some (repL m k X) := by
              have := oneL_at (l := m) k (fun j h hj => hno.out j h hj) HLT.out (by rw [el_of HXX.out, el_of HYY.out]; exact HPR.out)
              rw [this, el_of HXX.out, HUP.out]
              rfl
            have hlen := repl_len (show k + 2 ≤ m.length by have := HLT.out; omega) X
            have hI9 : SqzI w l0 (repL m k X) (some ⟨g, 0, none⟩) c w9 := by
              refine ⟨by rw [hlen]; exact ho, (sqz_some hone).symm.trans HI.out.2.1, by have := HI.out.2.2.1; omega, ?_⟩
              have z1 := HI.out.2.2.2.size
              exact (HI.out.2.2.2.trans (HB9.out.mono z1)).trans (Below.trans (by first | (have := HB9.out.size; go_grown; done) | exact Below.alloc (Below.refl _ _) (by have := HB9.out.size; omega) _) hb)
            have HI9 := Lib.hid hI9
            have HLEN := Lib.hid hlen
            clear ho hb hone hlen hI9 s0 s1 s2 s3 s4 s5
            go_wp2
            go_step3
            exact ⟨rfl, repL m k X, some ⟨g, 0, none⟩, c, HI9.out, _, _, _, _, _, _, _, _, _, _, _, _, _, _, _, _, _, _, _, _, _, _, _, _, _, _, _, _, _, _, _, _, _, _, _, by rw [HLEN.out]⟩
      · have hend : sqz l0 = m := by
          rw [← HI.out.2.1]
          exact sqz_none (oneL_no fun j hj => hno.out j hj (by omega))
        have hlt' : decide ((k : Int) < (m.length : Int) - 1) = false := decide_eq_false (by omega)
        have HE := Lib.hid hend
        have HB := Lib.hid hB
        clear hend hB
        go_wp2
        simp only [Exit.jump]
        go_ret
        rw [HE.out]
        exact ⟨A, c, rfl, own_block HI.out.1 (fun b _ hl => HB.out.block b hl), HI.out.2.2.2.trans (HB.out.mono HI.out.2.2.2.size)⟩
  · rintro a' w' ⟨m, A, c, hI, u1, u3, u4, u5, u6, u7, u8, u9, u10, u11, u12, u13, u14, u15, u16, u17, u18, u19, u20, u21, u22, u23, u24, u25, u26, u27, u28, u29, u30, u31, u32, u33, u34, u35, u36, rfl⟩
    obtain ⟨w1, rfl⟩ : ∃ w1, w1 = w' := ⟨_, rfl⟩
    have HI := Lib.hid hI
    clear hI
    have hm9 : (m.length : Int) - 1 ≤ 100000 := by have := HI.out.2.2.1; have := HL.out; omega
    have hm8 : -1 ≤ (m.length : Int) - 1 := by omega
    go_wp2_with fail
    go_loopw [0, 11] (fun v i wr => v = .slice A m.length c ∧ ∃ k : Nat, i = .int .i64 k ∧ (k = 0 ∨ k + 1 ≤ m.length) ∧ Hid (∀ j, (h : j + 1 < m.length) → j < k → pairP m[j] m[j + 1] = false) ∧ Below w1.heap.size w1 wr) (fun _ i _ => m.length - (intOf i).toNat)
    case atStart => exact ⟨rfl, 0, rfl, .inl rfl, Lib.hid (fun j _ h => absurd h (Nat.not_lt_zero _)), Below.refl _ _⟩
    case round =>
      obtain ⟨rfl, k, rfl, hk, hno, hB⟩ := hrel
      by_cases hlt : k + 1 < m.length
      · have hlt' : decide ((k : Int) < (m.length : Int) - 1) = true := decide_eq_true (by omega)
        have hk9 : (k : Int) + 2 ≤ 200000 := by omega
        obtain ⟨W, rfl⟩ : ∃ W, W = wr := ⟨_, rfl⟩
        obtain ⟨g, rfl, hg, hP⟩ := sqz_lt HI.out (i := k) (by omega)
        have hP' := hP.keep hB
        obtain ⟨x, hx⟩ : ∃ x, m[k] = x := ⟨_, rfl⟩
        obtain ⟨y, hy⟩ : ∃ y, m[k + 1] = y := ⟨_, rfl⟩
        have hX : EBox W g (k * 6) x := by
          obtain ⟨c0, c1, c2, c3, c4, c5⟩ := hP'.2 k (by omega)
          rw [hx] at c0 c1 c2 c3 c4 c5
          exact ⟨c0, c1, c2, c3, c4, c5, hP'.1⟩
        have hY : EBox W g ((k + 1) * 6) y := by
          obtain ⟨c0, c1, c2, c3, c4, c5⟩ := hP'.2 (k + 1) hlt
          rw [hy] at c0 c1 c2 c3 c4 c5
          exact ⟨c0, c1, c2, c3, c4, c5, hP'.1⟩
        have HX := Lib.hid hX
        have HY := Lib.hid hY
        have cj := fun W => joined_any x y W
        unfold joinV at cj
        have HXX := Lib.hid (show m[k]? = some x by rw [List.getElem?_eq_getElem (by omega), hx])
        have HYY := Lib.hid (show m[k + 1]? = some y by rw [List.getElem?_eq_getElem hlt, hy])
        have HB := Lib.hid hB
        have HLT := Lib.hid hlt
        have HK := Lib.hid hk
        clear hP hP' hX hY hx hy hB hk hlt
        cases hpr : pairP x y
        · simp only [hpr, Bool.false_eq_true, if_false] at cj
          have CJ := Lib.hid cj
          have HPR := Lib.hid hpr
          clear cj hpr
          go_upto_region 5 with fail
          clear hlt'
          have hk1 := fun V => idx_piece g m.length c k (by have := HLT.out; omega) V
          have hk2 := fun V => idx_piece g m.length c (k + 1) HLT.out V
          rw [show ((k + 1 : Nat) : Int) = (k : Int) + 1 by omega] at hk2
          have hk0 : IntKind.i64.wrap ((k : Int) + 1) = (k : Int) + 1 := by rw [IntKind.wrap_i64]; omega
          go_cut [4, 5] (fun b s wx => s = .bool false ∧ (∃ q, b = .pointer (some ⟨q, 0, none⟩)) ∧ Below W.heap.size W wx)
          case first =>
            go_region_held3 (fun w' => w'.cell? ⟨g, k * 6, none⟩ = some (.int .u64 (u x.p.a.hi)) ∧ w'.cell? ⟨g, k * 6 + 1, none⟩ = some (.int .u64 (u x.p.a.lo)) ∧ w'.cell? ⟨g, k * 6 + 2, none⟩ = some (.bool x.p.a.v6) ∧ w'.cell? ⟨g, k * 6 + 3, none⟩ = some (.int .i64 x.p.n) ∧ w'.cell? ⟨g, k * 6 + 4, none⟩ = some (.int .i64 x.h) ∧ w'.cell? ⟨g, k * 6 + 5, none⟩ = some (.bool x.r) ∧ w'.cell? ⟨g, (k + 1) * 6, none⟩ = some (.int .u64 (u y.p.a.hi)) ∧ w'.cell? ⟨g, (k + 1) * 6 + 1, none⟩ = some (.int .u64 (u y.p.a.lo)) ∧ w'.cell? ⟨g, (k + 1) * 6 + 2, none⟩ = some (.bool y.p.a.v6) ∧ w'.cell? ⟨g, (k + 1) * 6 + 3, none⟩ = some (.int .i64 y.p.n) ∧ w'.cell? ⟨g, (k + 1) * 6 + 4, none⟩ = some (.int .i64 y.h) ∧ w'.cell? ⟨g, (k + 1) * 6 + 5, none⟩ = some (.bool y.r) ∧ Below W.heap.size W w')
              (first | exact keep12 hk5 HX.out HY.out | (refine keep12 ?_ HX.out HY.out; go_grown))
              ((go_at_call 95; refine (CJ.out _).mono ?_; rintro e w5 ⟨rfl, hw5⟩; have hk5 := below_of (w := W) (by go_grown) hw5; have zk5 := hk5.size; (try (refine y6_then (b := W.heap.size) (c0 := .int .u64 0) (c1 := .int .u64 0) (c2 := .bool false) (c3 := .int .i64 0) (c4 := .int .i64 0) (c5 := .bool false) hw5 ?_ ?_ ?_ ?_ ?_ ?_ ?_ ?_ ?_ ?_ ?_ ?_ ?_ (fun y4 => ?_); go_size; go_simp; go_simp; go_simp; go_simp; go_simp; go_simp; go_simp; go_simp; go_simp; go_simp; go_simp; go_simp; obtain ⟨ya, yb, yc, yg, yi, yk, yd, ye, yf, yh, yj, yl, yz⟩ := y4))))
            all_goals (go_wp2_with fail; go_meet)
            all_goals exact ⟨rfl, ⟨_, rfl⟩, by go_grown⟩
          case rest =>
            obtain ⟨rfl, ⟨q, rfl⟩, hbc⟩ := hcut
            clear hk1 hk2 hk0
            go_wp2
            go_roundw
            case rel => exact ⟨rfl, k + 1, by go_num, .inr (by have := HLT.out; omega), Lib.hid (fun j h hj => by
              rcases Nat.lt_or_eq_of_le (Nat.le_of_lt_succ hj) with e | e
              · exact hno.out j h e
              · subst e
                rw [el_of HXX.out, el_of HYY.out]
                exact HPR.out), HB.out.trans (hbc.mono HB.out.size)⟩
            case measure => simp [intOf]; have := HLT.out; omega
        · simp only [hpr, if_true] at cj
          have CJ := Lib.hid cj
          have HPR := Lib.hid hpr
          clear cj hpr
          go_upto_region 5 with fail
          clear hlt'
          have hk1 := fun V => idx_piece g m.length c k (by have := HLT.out; omega) V
          have hk2 := fun V => idx_piece g m.length c (k + 1) HLT.out V
          rw [show ((k + 1 : Nat) : Int) = (k : Int) + 1 by omega] at hk2
          have hk0 : IntKind.i64.wrap ((k : Int) + 1) = (k : Int) + 1 := by rw [IntKind.wrap_i64]; omega
          go_cut [4, 5] (fun b s wx => s = .bool true ∧ (∃ q, b = .pointer (some ⟨q, 0, none⟩) ∧ W.heap.size ≤ q ∧ SBox wx q (upP x)) ∧ Below W.heap.size W wx)
          case first =>
            go_region_held3 (fun w' => w'.cell? ⟨g, k * 6, none⟩ = some (.int .u64 (u x.p.a.hi)) ∧ w'.cell? ⟨g, k * 6 + 1, none⟩ = some (.int .u64 (u x.p.a.lo)) ∧ w'.cell? ⟨g, k * 6 + 2, none⟩ = some (.bool x.p.a.v6) ∧ w'.cell? ⟨g, k * 6 + 3, none⟩ = some (.int .i64 x.p.n) ∧ w'.cell? ⟨g, k * 6 + 4, none⟩ = some (.int .i64 x.h) ∧ w'.cell? ⟨g, k * 6 + 5, none⟩ = some (.bool x.r) ∧ w'.cell? ⟨g, (k + 1) * 6, none⟩ = some (.int .u64 (u y.p.a.hi)) ∧ w'.cell? ⟨g, (k + 1) * 6 + 1, none⟩ = some (.int .u64 (u y.p.a.lo)) ∧ w'.cell? ⟨g, (k + 1) * 6 + 2, none⟩ = some (.bool y.p.a.v6) ∧ w'.cell? ⟨g, (k + 1) * 6 + 3, none⟩ = some (.int .i64 y.p.n) ∧ w'.cell? ⟨g, (k + 1) * 6 + 4, none⟩ = some (.int .i64 y.h) ∧ w'.cell? ⟨g, (k + 1) * 6 + 5, none⟩ = some (.bool y.r) ∧ Below W.heap.size W w')
              (first | exact keep12 hk5 HX.out HY.out | (refine keep12 ?_ HX.out HY.out; go_grown))
              ((go_at_call 95; refine (CJ.out _).mono ?_; rintro e w5 ⟨rfl, hw5⟩; have hk5 := below_of (w := W) (by go_grown) hw5; have zk5 := hk5.size; (try (refine y6_then (b := W.heap.size) (c0 := .int .u64 0) (c1 := .int .u64 0) (c2 := .bool false) (c3 := .int .i64 0) (c4 := .int .i64 0) (c5 := .bool false) hw5 ?_ ?_ ?_ ?_ ?_ ?_ ?_ ?_ ?_ ?_ ?_ ?_ ?_ (fun y4 => ?_); go_size; go_simp; go_simp; go_simp; go_simp; go_simp; go_simp; go_simp; go_simp; go_simp; go_simp; go_simp; go_simp; obtain ⟨ya, yb, yc, yg, yi, yk, yd, ye, yf, yh, yj, yl, yz⟩ := y4))))
            all_goals (go_wp2_with fail; go_meet)
            all_goals
              refine ⟨rfl, ⟨_, rfl, ?_, ?_, ?_, ?_, ?_, ?_, ?_, ?_⟩, by go_grown⟩
              all_goals first | (go_simp; done) | (go_simp <;> rfl) | go_size | omega
          case rest =>
            obtain ⟨rfl, ⟨q, rfl, hq, s0, s1, s2, s3, s4, s5, sz⟩, hbc⟩ := hcut
            clear hk1 hk2 hk0
            have hb9 := HB.out.trans (hbc.mono HB.out.size)
            have ho9 := own_block HI.out.1 (fun b _ hl => hb9.block b hl)
            have HO := Lib.hid ho9
            have HB9 := Lib.hid hb9
            clear ho9 hb9 hbc
            obtain ⟨X, hXX⟩ : ∃ X, upP x = X := ⟨_, rfl⟩
            rw [hXX] at s0 s1 s2 s3 s4 s5
            have HUP := Lib.hid hXX
            clear hXX
            obtain ⟨W9, rfl⟩ : ∃ W9, W9 = wc := ⟨_, rfl⟩
            go_wp2_with fail
            refine (replace_any (base := w.heap.size) (i := k) X W9.heap.size (own_block HO.out (fun b _ hl => Below.block (B := W9.heap.size) (w := W9) (by go_grown) b hl)) (hp_new rfl) (by have := HLT.out; omega) (by have := HI.out.2.2.1; have := HL.out; omega)).mono ?_
            rintro e w9 ⟨rfl, ho, hb⟩
            have hone : oneL m = some (repL m k X) := by
              have := oneL_at (l := m) k (fun j h hj => hno.out j h hj) HLT.out (by rw [el_of HXX.out, el_of HYY.out]; exact HPR.out)
              rw [this, el_of HXX.out, HUP.out]
              rfl
            have hlen := repl_len (show k + 2 ≤ m.length by have := HLT.out; omega) X
            have hI9 : SqzI w l0 (repL m k X) (some ⟨g, 0, none⟩) c w9 := by
              refine ⟨by rw [hlen]; exact ho, (sqz_some hone).symm.trans HI.out.2.1, by have := HI.out.2.2.1; omega, ?_⟩
              have z1 := HI.out.2.2.2.size
              exact (HI.out.2.2.2.trans (HB9.out.mono z1)).trans (Below.trans (by first | (have := HB9.out.size; go_grown; done) | exact Below.alloc (Below.refl _ _) (by have := HB9.out.size; omega) _) hb)
            have HI9 := Lib.hid hI9
            have HLEN := Lib.hid hlen
            clear ho hb hone hlen hI9 s0 s1 s2 s3 s4 s5
            go_wp2
            go_step3
            exact ⟨rfl, ⟨repL m k X, some ⟨g, 0, none⟩, c, HI9.out, _, _, _, _, _, _, _, _, _, _, _, _, _, _, _, _, _, _, _, _, _, _, _, _, _, _, _, _, _, _, _, _, _, _, _, by rw [HLEN.out]⟩, by have := HLEN.out; have := HLT.out; simp; omega⟩
      · have hend : sqz l0 = m := by
          rw [← HI.out.2.1]
          exact sqz_none (oneL_no fun j hj => hno.out j hj (by omega))
        have hlt' : decide ((k : Int) < (m.length : Int) - 1) = false := decide_eq_false (by omega)
        have HE := Lib.hid hend
        have HB := Lib.hid hB
        clear hend hB
        go_wp2
        simp only [Exit.jump]
        go_ret
        rw [HE.out]
        exact ⟨A, c, rfl, own_block HI.out.1 (fun b _ hl => HB.out.block b hl), HI.out.2.2.2.trans (HB.out.mono HI.out.2.2.2.size)⟩

end Go.Proofs.Ythdnpilkkegniaa

namespace Go.Proofs.Ythdnpilkkegniaa
open Go.RowKit

section
variable {P : Program} {ops : Array Oper} {md : Region.Mode} {C : World → Prop}

def sink1B (md : Region.Mode) (ops : Array Oper) (n : Nat) : Bool :=
  (List.range n).all fun i => i == 0 || (List.range (n + 1)).any fun j => decide (i < j) && Region.waitsFor md ops j i
structure Inv1 (md : Region.Mode) (ops : Array Oper) (n : Nat) (listed : Array Bool) : Prop where
  head : HeadInv md ops n listed
  zero : listed.getD 0 false = true
theorem Inv1.set {n i : Nat} {listed : Array Bool} (inv : Inv1 md ops n listed) (hi : i ∈ Region.ready md ops listed) (hin : i < n) : Inv1 md ops n (listed.setIfInBounds i true) :=
  ⟨inv.head.set hi hin, getD_set_true inv.zero⟩
theorem waits1 {n : Nat} {listed : Array Bool} (hs : sink1B md ops n = true) (hc : Region.chainB md ops n = true) (inv : Inv1 md ops n listed) :
    ∀ (d i : Nat), n - i = d → i < n → listed.getD i true = false → ∀ t, n ≤ t → t ∉ Region.ready md ops listed := by
  intro d
  induction d using Nat.strongRecOn with
  | _ d ih =>
    intro i hd hi hun t ht hr
    obtain ⟨_, ot, hot, hall⟩ := mem_ready.1 hr
    have htlt : t < ops.size := (Array.getElem?_eq_some_iff.1 hot).1
    have hi0 : i ≠ 0 := by
      intro e
      subst e
      have := inv.zero
      rw [getD_both hun] at this
      cases this
    by_cases htn : t = n
    · subst htn
      have h1 := List.all_eq_true.1 hs i (List.mem_range.2 hi)
      simp only [Bool.or_eq_true, beq_iff_eq] at h1
      obtain ⟨j, hj, hj2⟩ := List.any_eq_true.1 (h1.resolve_left hi0)
      simp only [Bool.and_eq_true, decide_eq_true_eq] at hj2
      obtain ⟨oj, hoj, e, he, hb, hon⟩ := Region.waitsFor_spec hj2.2
      have hjle : j ≤ t := by have := List.mem_range.1 hj; omega
      by_cases hjt : j = t
      · subst hjt
        have : oj = ot := Option.some.inj (hoj.symm.trans hot)
        subst this
        have h2 := hall e he hb
        rw [hon, getD_both hun] at h2
        cases h2
      · cases hl : listed.getD j false with
        | true =>
          have h2 := inv.head.closed j oj hoj hl e he hb
          rw [hon, getD_both hun] at h2
          cases h2
        | false =>
          have hjs : j < listed.size := by rw [inv.head.size]; omega
          exact ih (t - j) (by omega) j rfl (by omega) (getD_in hjs hl) t (Nat.le_refl _) hr
    · have h1 := List.all_eq_true.1 hc t (List.mem_range.2 htlt)
      simp only [Bool.or_eq_true, decide_eq_true_eq] at h1
      rcases h1 with h1 | h1
      · omega
      · obtain ⟨o', ho', e, he, hb, hon⟩ := Region.waitsFor_spec h1
        have : o' = ot := Option.some.inj (ho'.symm.trans hot)
        subst this
        have h2 := hall e he hb
        rw [hon, getD_both (inv.head.tail (t - 1) (by omega) (by omega))] at h2
        cases h2

theorem AnyHead.first1 {n i : Nat} {oi : Oper} {v : Value} {L : Array Bool → Act → Prop} (hi : ops[i]? = some oi) (hsel : ∀ (j : Nat) (o : Oper) cs b, ops[j]? = some o → o.op ≠ .select cs b)
    (hs : sink1B md ops n = true) (hc : Region.chainB md ops n = true) (hin : i < n) (hL : ∀ done a, L done a → ∀ j ∈ Region.ready md ops done, n ≤ j) (f : Nat) :
    ∀ (done : Array Bool) (a : Act), Inv1 md ops n done →
      (∀ j oj, ops[j]? = some oj → j ≠ i → done.getD j true = false → (∀ e ∈ oj.after, Region.binds md e = true → e.on ≠ i) → oi.apart ops oj = true) →
      i ∈ Region.ready md ops done → YieldsIn P ops C oi v a → AnyHead P md ops C n L f (done.setIfInBounds i true) (a.put oi.dst v) → AnyHead P md ops C n L (f + 1) done a := by
  induction f with
  | zero =>
    intro done a inv _ hr hy H
    refine ⟨List.ne_nil_of_mem hr, fun j hj => ?_⟩
    rcases Nat.lt_or_ge j n with hjn | hjn
    · refine ⟨hjn, ?_⟩
      by_cases e : j = i
      · subst e
        exact hy.qOp hi H
      · exact absurd (hL _ _ H j (ready_mono hj e)) (by omega)
    · exact absurd hj (waits1 hs hc inv _ i rfl hin (mem_ready.1 hr).1 j hjn)
  | succ f ih =>
    intro done a inv hfree hr hy H
    refine ⟨List.ne_nil_of_mem hr, fun j hj => ?_⟩
    rcases Nat.lt_or_ge j n with hjn | hjn
    · refine ⟨hjn, ?_⟩
      by_cases e : j = i
      · subst e
        exact hy.qOp hi H
      · obtain ⟨hjun, oj, hoj, hall⟩ := mem_ready.1 hj
        have hno : ∀ e ∈ oj.after, Region.binds md e = true → e.on ≠ i := by
          intro e he hb heq
          have h1 := hall e he hb
          rw [heq, getD_both (mem_ready.1 hr).1] at h1
          cases h1
        have h2 := qOp_put hoj (hfree j oj hoj e hjun hno) (fun cs b => hsel i oi cs b hi) (fun cs b => hsel j oj cs b hoj) hy (H.2 j (ready_mono hj e)).2
        refine qOp_mono (fun a' h3 => ih _ a' (inv.set hj hjn) (fun k ok hk hki hun hno' => hfree k ok hk hki ?_ hno') (ready_mono hr (Ne.symm e)) h3.1 ?_) h2
        · by_cases hjk : j = k
          · subst hjk; exact hjun
          · rwa [getD_set_ne true hjk] at hun
        · rw [Array.setIfInBounds_comm _ _ e]
          exact h3.2
    · exact absurd hj (waits1 hs hc inv _ i rfl hin (mem_ready.1 hr).1 j hjn)

theorem AnyHead.lex1 {n g : Nat} {R : Act → Prop} (hsel : Region.noSelect ops = true) (hs : sink1B md ops n = true) (hc : Region.chainB md ops n = true) (l : List Oper) :
    ∀ (k : Nat) (done : Array Bool) (a : Act), (∀ j, j < l.length → l[j]? = ops[k + j]?) → k + l.length = n → Inv1 md ops n done → Region.lexHead md ops g l.length k done = true →
      wpQuiet P ops C R l a → AnyHead P md ops C n (fun done' a' => Region.seqB md ops g n done' = true ∧ R a') l.length done a := by
  induction l with
  | nil =>
    intro k done a _ hk _ hB h
    obtain rfl : k = n := by simpa using hk
    exact ⟨by simpa [Region.lexHead] using hB, h⟩
  | cons o l ih =>
    intro k done a hl hk inv hB h
    have h0 : ops[k]? = some o := by simpa using (hl 0 (by simp)).symm
    simp only [List.length_cons, Region.lexHead, Bool.and_eq_true] at hB
    simp only [List.length_cons] at hk
    have hr : k ∈ Region.ready md ops done := by simpa using hB.1.1
    have hq : qOp P ops C k (wpQuiet P ops C R l) a := by unfold qOp; simp only [h0]; exact h
    obtain ⟨v, hy, hK⟩ := yieldsIn_of_qOp h0 hq
    refine AnyHead.first1 h0 (Region.noSelect_spec hsel) hs hc (by omega) (fun d' a' h' => seqB_ready h'.1) l.length done a inv (Region.free_spec h0 hB.1.2) hr hy ?_
    refine ih (k + 1) _ _ (fun j hj => ?_) (by omega) (inv.set hr (by omega)) hB.2 hK
    have := hl (j + 1) (by simp; omega)
    simpa [Nat.add_assoc, Nat.add_comm 1 j] using this

/-- What can be reckoned of the region. -/
def tail1B (ops : Array Oper) (n : Nat) : Bool :=
  Region.noSelect ops && decide (n < ops.size) && decide (1 ≤ n) && sink1B .any ops n && Region.chainB .any ops n && Region.free .any ops (Array.replicate ops.size false) 0 && (Region.ready .any ops (Array.replicate ops.size false)).contains 0 &&
    ((ops[0]?).map fun o => o.after.isEmpty).getD false && Region.lexHead .any ops (ops.size - n) (n - 1) 1 ((Array.replicate ops.size false).setIfInBounds 0 true)

theorem region_head_tail1 {id : Nat} {Q : Exit → Act → World → Prop} {a : Act} {w : World} {o0 : Oper} {l : List Oper} (n : Nat) (v : Value) (hm : P.follows .mixedOrders = true) (hB : tail1B (o0 :: l).toArray n = true) (hC : C w.drew)
    (hy : Yields P (o0 :: l).toArray o0 v a) (hQ : ∀ c a w, Q (.panic c) (a.put o0.dst v) w → Q (.panic c) a w)
    (h : wpQuiet P (o0 :: l).toArray C (fun a' => ∀ w', C w' → wpList P (o0 :: l).toArray Q (l.drop (n - 1)) a' w') (l.take (n - 1)) (a.put o0.dst v)) : (Code.region id (o0 :: l).toArray true).wp P Q a w := by
  simp only [tail1B, Bool.and_eq_true, decide_eq_true_eq] at hB
  obtain ⟨⟨⟨⟨⟨⟨⟨⟨hsel, hn⟩, hn1⟩, hs⟩, hc⟩, hfr⟩, hrd⟩, haf⟩, hlex⟩ := hB
  generalize hops : (o0 :: l).toArray = ops at *
  have hsz : ops.size = l.length + 1 := by rw [← hops]; simp
  have h00 : ops[0]? = some o0 := by rw [← hops]; simp
  have ht : (l.take (n - 1)).length = n - 1 := by simp; omega
  have hd : (l.drop (n - 1)).length = ops.size - n := by simp; omega
  have inv : Inv1 .any ops n ((Array.replicate ops.size false).setIfInBounds 0 true) := by
    refine ⟨⟨by simp, fun j oj hj hl e he hb => ?_, fun t ht' ht2 => ?_⟩, ?_⟩
    · by_cases hj0 : 0 = j
      · subst hj0
        obtain rfl : oj = o0 := Option.some.inj (hj.symm.trans h00)
        rw [h00] at haf
        simp at haf
        rw [haf] at he
        simp at he
      · rw [getD_set_ne false hj0, getD_replicate_false] at hl
        cases hl
    · rw [getD_set_ne true (by omega)]
      exact getD_in (by simpa using ht2) (getD_replicate_false _ _)
    · simp
      omega
  have H := AnyHead.lex1 (md := .any) (g := ops.size - n) hsel hs hc (l.take (n - 1)) 1 _ (a.put o0.dst v) (fun j hj => by
    rw [ht] at hj
    rw [← hops]
    simp [hj, Nat.add_comm 1 j]) (by rw [ht]; omega) inv (by rw [ht]; exact hlex) h
  refine wp_region_any hm ?_
  have K := AnyHead.any (Q := Q) (g := ops.size - n) (fun done a' w' hw' hL => by
    have := wpAny_of_seq (md := .any) (Q' := Q) (l.drop (n - 1)) n done a' w' (fun j => by
      rw [← hops, show n + j = (n - 1 + j) + 1 by omega]
      simp [List.getElem?_drop]) (by rw [hd]; exact hL.1) (hL.2 w' hw')
    rwa [hd] at this) _ _ _ w.drew hC H
  rw [ht] at K
  have K2 := wpAny_take (md := .any) (Q := Q) h00 hsel hfr hrd hQ hy K
  rw [show n - 1 + (ops.size - n) + 1 = ops.size by omega] at K2
  exact K2
end

theorem region_tail1 {P : Program} {id : Nat} {Q : Exit → Act → World → Prop} {a : Act} {w : World} {o0 : Oper} {l : List Oper} (n B : Nat) (v : Value) (hm : P.follows .mixedOrders = true) (hB : tail1B (o0 :: l).toArray n = true)
    (hy : Yields P (o0 :: l).toArray o0 v a) (hQ : ∀ c a w, Q (.panic c) (a.put o0.dst v) w → Q (.panic c) a w)
    (h : wpQuiet P (o0 :: l).toArray (fun w' => ∃ x : Later B w, w' = x.at) (fun a' => ∀ x : Later B w, wpList P (o0 :: l).toArray Q (l.drop (n - 1)) a' x.at) (l.take (n - 1)) (a.put o0.dst v)) : (Code.region id (o0 :: l).toArray true).wp P Q a w :=
  region_head_tail1 (C := fun w' => ∃ x : Later B w, w' = x.at) n v hm hB ⟨⟨w.drew, (Below.refl _ _).drew⟩, rfl⟩ hy hQ (by
    have e : (fun a' => ∀ w', (∃ x : Later B w, w' = x.at) → wpList P (o0 :: l).toArray Q (l.drop (n - 1)) a' w') = (fun a' => ∀ x : Later B w, wpList P (o0 :: l).toArray Q (l.drop (n - 1)) a' x.at) := by
      funext a'
      apply propext
      exact ⟨fun k x => k _ ⟨x, rfl⟩, fun k w' ⟨x, hx⟩ => hx ▸ k x⟩
    rw [e]
    exact h)

end Go.Proofs.Ythdnpilkkegniaa

namespace Go.Proofs.Ythdnpilkkegniaa
open Go.RowKit Go.Maps
set_option maxRecDepth 100000

def RowRc (w : World) (l : List Pc) (e : Ending) (w' : World) : Prop := ∃ A c, e = .returned (.slice A l.length c) ∧ w'.ownsRow w.heap.size 84 pcK.k (.slice A l.length c) l.length (pcK.row l) ∧ Below w.heap.size w w'
theorem rowpc_rd {w : World} {l : List Pc} {e : Ending} {w' : World} (h : RowPc w l e w') : ∃ A c, e = .returned (.slice A l.length c) ∧ l.length ≤ c ∧ (A = none → l = [] ∧ c = 0) ∧ pcK.Rd w' A l ∧ Below w.heap.size w w' := by
  obtain ⟨A, c, rfl, ho, hb⟩ := h
  obtain ⟨A', c', e, hle, hrd, hA⟩ := Kd.rd_own ho rfl
  simp only [Value.slice.injEq, true_and] at e
  obtain ⟨rfl, rfl⟩ := e
  refine ⟨A, c, rfl, hle, fun e => ?_, hrd, hb⟩
  rcases ho.2 with ⟨h1, h2⟩ | ⟨g, cap, cur, h1, _⟩
  · simp only [Value.slice.injEq] at h1
    exact ⟨List.eq_nil_of_length_eq_zero h2, h1.2.2⟩
  · rw [e] at h1
    simp at h1
theorem rowrc_rd {w : World} {l : List Pc} {e : Ending} {w' : World} (h : RowRc w l e w') : ∃ A c, e = .returned (.slice A l.length c) ∧ l.length ≤ c ∧ (A = none → l = [] ∧ c = 0) ∧ pcK.Rd w' A l ∧ Below w.heap.size w w' := by
  obtain ⟨A, c, rfl, ho, hb⟩ := h
  obtain ⟨A', c', e, hle, hrd, hA⟩ := Kd.rd_own ho rfl
  simp only [Value.slice.injEq, true_and] at e
  obtain ⟨rfl, rfl⟩ := e
  refine ⟨A, c, rfl, hle, fun e => ?_, hrd, hb⟩
  rcases ho.2 with ⟨h1, h2⟩ | ⟨g, cap, cur, h1, _⟩
  · simp only [Value.slice.injEq] at h1
    exact ⟨List.eq_nil_of_length_eq_zero h2, h1.2.2⟩
  · rw [e] at h1
    simp at h1
set_option maxHeartbeats 4000000 in
theorem theirs_any (A : Option Addr) (c : Nat) (l : List Pc) (w : World) (hr : pcK.Rd w A l) (hl : l.length ≤ 100000) :
    Calls Try.prog 34 #[.slice A l.length c] w (RowRc w l) := by
  have HR := Lib.hid hr
  clear hr
  go_enter Try.func34, Try.ntmps34
  go_wp2_with fail
  go_loopw [3, 4] (fun v i wr => ∃ (k : Nat) (A' : Option Addr) (c' : Nat), v = .slice A' k c' ∧ k ≤ l.length ∧ i = .int .i64 k ∧ Hid (wr.ownsRow w.heap.size 84 pcK.k (.slice A' k c') k (pcK.row (l.take k))) ∧ Below w.heap.size w wr) (fun _ i _ => l.length - (intOf i).toNat)
  case atStart => exact ⟨0, none, 0, rfl, Nat.zero_le _, rfl, Lib.hid (World.ownsRow_nil _ _ _ _), Below.refl _ _⟩
  case round =>
    obtain ⟨k, A', c', rfl, hk, rfl, ho, hB⟩ := hrel
    by_cases hlt : k < l.length
    · have hlt' : (k : Int) < (l.length : Int) := by omega
      have hk0 : (0 : Int) ≤ (k : Int) := by omega
      have hk9 : (k : Int) + 1 ≤ 1000000000 := by omega
      obtain ⟨ag, ao, ae, az, a0, a1, a2, a3, a4, a5⟩ := rd6 (HR.out.keep hB (Nat.le_refl _)) hlt
      subst ae
      have hsuc : l.take (k + 1) = l.take k ++ [l[k]] := List.take_succ_eq_append_getElem hlt
      have hlen : k = (l.take k).length := by rw [List.length_take]; omega
      obtain ⟨x, hx⟩ : ∃ x, l[k] = x := ⟨_, rfl⟩
      rw [hx] at a0 a1 a2 a3 a4 a5 hsuc
      obtain ⟨W, rfl⟩ : ∃ W, W = wr := ⟨_, rfl⟩
      have hz := hB.size
      have HS := Lib.hid hsuc
      have HLN := Lib.hid hlen
      clear hx hsuc hlen
      go_upto_region 5 with fail
      have La0 := fun x : Later W.heap.size W => (x.cell (p := ⟨ag, ao + k * 6, none⟩) az).trans a0
      have La1 := fun x : Later W.heap.size W => (x.cell (p := ⟨ag, ao + k * 6 + 1, none⟩) az).trans a1
      have La2 := fun x : Later W.heap.size W => (x.cell (p := ⟨ag, ao + k * 6 + 2, none⟩) az).trans a2
      have La3 := fun x : Later W.heap.size W => (x.cell (p := ⟨ag, ao + k * 6 + 3, none⟩) az).trans a3
      have La4 := fun x : Later W.heap.size W => (x.cell (p := ⟨ag, ao + k * 6 + 4, none⟩) az).trans a4
      have La5 := fun x : Later W.heap.size W => (x.cell (p := ⟨ag, ao + k * 6 + 5, none⟩) az).trans a5
      refine region_tail1 17 W.heap.size (.slice A' k c') (by kernel_rfl) (by kernel_rfl) (.inl ⟨rfl, fun _ => by simp [go_sem]⟩) (fun _ _ _ h => h) ?_
      simp only [Nat.reduceSub, List.take_succ_cons, List.take_zero, List.drop_succ_cons, List.drop_zero, Act.put, List.setIfInBounds_toArray, List.set_cons_succ, List.set_cons_zero]
      repeat (go_big_quiet_step (fail))
      refine wpQuiet_nil ?_
      intro y
      have hy := y.below
      clear La0 La1 La2 La3 La4 La5 a0 a1 a2 a3 a4 a5
      generalize y.at = w2 at hy ⊢
      clear y
      have b2 : Below w.heap.size w w2 := hB.trans (hy.mono hz)
      have ho2 := Lib.hid (own_block ho.out (fun b _ hl => hy.block b hl))
      have z2 := b2.size
      clear ho hlt'
      go_wp2_with (at_builtin; refine Kd.wpList_one ty_rpiece rfl (.tmp 11) (.tmp 28) rfl w.heap.size _ k (l.take k) HLN.out (by rfl) (own_block ho2.out (fun b _ hl => Below.block (B := w2.heap.size) (w := w2) (by go_grown) b hl)) _ x (by rfl) (hp_new rfl) (by omega) (by simp; omega) ?_; intro A9 c9 w9 hG; have HG := Lib.hid hG.1; have b9 : Below w.heap.size w w9 := (b2.alloc (by omega) _).trans hG.2.2.2; clear hG)
      go_roundw
      case rel => exact ⟨k + 1, A9, c9, rfl, by omega, by go_num, Lib.hid (by rw [HS.out]; exact HG.out), b9⟩
      case measure => simp [intOf]; omega
    · obtain rfl : k = l.length := by omega
      have hlt' : ¬ (l.length : Int) < (l.length : Int) := by omega
      rw [List.take_length] at ho
      go_wp2
      go_ret
      exact ⟨A', c', rfl, ho.out, hB⟩
set_option maxHeartbeats 4000000 in
theorem ours_any (A : Option Addr) (c : Nat) (l : List Pc) (w : World) (hr : pcK.Rd w A l) (hl : l.length ≤ 100000) :
    Calls Try.prog 38 #[.slice A l.length c] w (RowPc w l) := by
  have HR := Lib.hid hr
  clear hr
  go_enter Try.func38, Try.ntmps38
  go_wp2_with fail
  go_loopw [3, 4] (fun v i wr => ∃ (k : Nat) (A' : Option Addr) (c' : Nat), v = .slice A' k c' ∧ k ≤ l.length ∧ i = .int .i64 k ∧ Hid (wr.ownsRow w.heap.size 80 pcK.k (.slice A' k c') k (pcK.row (l.take k))) ∧ Below w.heap.size w wr) (fun _ i _ => l.length - (intOf i).toNat)
  case atStart => exact ⟨0, none, 0, rfl, Nat.zero_le _, rfl, Lib.hid (World.ownsRow_nil _ _ _ _), Below.refl _ _⟩
  case round =>
    obtain ⟨k, A', c', rfl, hk, rfl, ho, hB⟩ := hrel
    by_cases hlt : k < l.length
    · have hlt' : (k : Int) < (l.length : Int) := by omega
      have hk0 : (0 : Int) ≤ (k : Int) := by omega
      have hk9 : (k : Int) + 1 ≤ 1000000000 := by omega
      obtain ⟨ag, ao, ae, az, a0, a1, a2, a3, a4, a5⟩ := rd6 (HR.out.keep hB (Nat.le_refl _)) hlt
      subst ae
      have hsuc : l.take (k + 1) = l.take k ++ [l[k]] := List.take_succ_eq_append_getElem hlt
      have hlen : k = (l.take k).length := by rw [List.length_take]; omega
      obtain ⟨x, hx⟩ : ∃ x, l[k] = x := ⟨_, rfl⟩
      rw [hx] at a0 a1 a2 a3 a4 a5 hsuc
      obtain ⟨W, rfl⟩ : ∃ W, W = wr := ⟨_, rfl⟩
      have hz := hB.size
      have HS := Lib.hid hsuc
      have HLN := Lib.hid hlen
      clear hx hsuc hlen
      go_upto_region 5 with fail
      have La0 := fun x : Later W.heap.size W => (x.cell (p := ⟨ag, ao + k * 6, none⟩) az).trans a0
      have La1 := fun x : Later W.heap.size W => (x.cell (p := ⟨ag, ao + k * 6 + 1, none⟩) az).trans a1
      have La2 := fun x : Later W.heap.size W => (x.cell (p := ⟨ag, ao + k * 6 + 2, none⟩) az).trans a2
      have La3 := fun x : Later W.heap.size W => (x.cell (p := ⟨ag, ao + k * 6 + 3, none⟩) az).trans a3
      have La4 := fun x : Later W.heap.size W => (x.cell (p := ⟨ag, ao + k * 6 + 4, none⟩) az).trans a4
      have La5 := fun x : Later W.heap.size W => (x.cell (p := ⟨ag, ao + k * 6 + 5, none⟩) az).trans a5
      refine region_tail1 17 W.heap.size (.slice A' k c') (by kernel_rfl) (by kernel_rfl) (.inl ⟨rfl, fun _ => by simp [go_sem]⟩) (fun _ _ _ h => h) ?_
      simp only [Nat.reduceSub, List.take_succ_cons, List.take_zero, List.drop_succ_cons, List.drop_zero, Act.put, List.setIfInBounds_toArray, List.set_cons_succ, List.set_cons_zero]
      repeat (go_big_quiet_step (fail))
      refine wpQuiet_nil ?_
      intro y
      have hy := y.below
      clear La0 La1 La2 La3 La4 La5 a0 a1 a2 a3 a4 a5
      generalize y.at = w2 at hy ⊢
      clear y
      have b2 : Below w.heap.size w w2 := hB.trans (hy.mono hz)
      have ho2 := Lib.hid (own_block ho.out (fun b _ hl => hy.block b hl))
      have z2 := b2.size
      clear ho hlt'
      go_wp2_with (at_builtin; refine Kd.wpList_one ty_piece rfl (.tmp 11) (.tmp 28) rfl w.heap.size _ k (l.take k) HLN.out (by rfl) (own_block ho2.out (fun b _ hl => Below.block (B := w2.heap.size) (w := w2) (by go_grown) b hl)) _ x (by rfl) (hp_new rfl) (by omega) (by simp; omega) ?_; intro A9 c9 w9 hG; have HG := Lib.hid hG.1; have b9 : Below w.heap.size w w9 := (b2.alloc (by omega) _).trans hG.2.2.2; clear hG)
      go_roundw
      case rel => exact ⟨k + 1, A9, c9, rfl, by omega, by go_num, Lib.hid (by rw [HS.out]; exact HG.out), b9⟩
      case measure => simp [intOf]; omega
    · obtain rfl : k = l.length := by omega
      have hlt' : ¬ (l.length : Int) < (l.length : Int) := by omega
      rw [List.take_length] at ho
      go_wp2
      go_ret
      exact ⟨A', c', rfl, ho.out, hB⟩

end Go.Proofs.Ythdnpilkkegniaa

namespace Go.Proofs.Ythdnpilkkegniaa
open Go.RowKit Go.Maps
set_option maxRecDepth 100000

theorem SBox.keep {w w' : World} {b : Nat} {x : Pc} (h : SBox w b x) (hb : Below w.heap.size w w') : SBox w' b x := by
  obtain ⟨c0, c1, c2, c3, c4, c5, hz⟩ := h
  exact ⟨(hb.cell (p := ⟨b, 0, none⟩) hz).trans c0, (hb.cell (p := ⟨b, 1, none⟩) hz).trans c1, (hb.cell (p := ⟨b, 2, none⟩) hz).trans c2, (hb.cell (p := ⟨b, 3, none⟩) hz).trans c3, (hb.cell (p := ⟨b, 4, none⟩) hz).trans c4, (hb.cell (p := ⟨b, 5, none⟩) hz).trans c5, Nat.lt_of_lt_of_le hz hb.size⟩
theorem atL_all (L : List Pr) (p : Pf) (a : Ad) : (atL (piecesL L p) a).isSome = pcon p a := by
  cases hp : psane p
  · have e : piecesL L p = [] := by unfold piecesL allB; rw [if_neg (by rw [hp]; decide)]; rfl
    have h2 : pcon p a = false := bool_not fun h => by
      have := ((pcon_iff p a).1 h).1
      rw [hp] at this
      cases this
    rw [e, h2]
    rfl
  · exact (atL_piece hp a).1
theorem same_facts (L : List Pr) (p : Pf) (a : Ad) : ∃ X yp, (atL (piecesL L p) a).getD nilPc = X ∧ (atL (sqz (piecesL L p)) a).getD nilPc = ⟨yp, X.h, X.r⟩ ∧ (atL (piecesL L p) a).isSome = pcon p a ∧ (atL (sqz (piecesL L p)) a).isSome = pcon p a ∧ (pcon p a = true → ((longL L a).getD nilPr).v = X.h ∧ (longL L a).isSome = X.r) := by
  have h1 := sqz_atL (piecesL L p) a
  have h2 := sqz_isSome (piecesL L p) a
  have h3 := atL_all L p a
  refine ⟨_, ((atL (sqz (piecesL L p)) a).getD nilPc).p, rfl, ?_, h3, h2.trans h3, fun hc => ?_⟩
  · cases e1 : atL (piecesL L p) a with
    | none =>
      rw [e1] at h1
      simp only [Option.map_none, Option.map_eq_none_iff] at h1
      rw [h1]
      try rfl
    | some x =>
      rw [e1] at h1
      simp only [Option.map_some] at h1
      obtain ⟨y, hy, hxy⟩ := Option.map_eq_some_iff.1 h1
      simp only [Prod.mk.injEq] at hxy
      rw [hy]
      show y = ⟨y.p, x.h, x.r⟩
      rw [← hxy.1, ← hxy.2]
  · rw [← h3] at hc
    obtain ⟨x, hx⟩ := Option.isSome_iff_exists.1 hc
    have hp : psane p = true := ((pcon_iff p a).1 (by rw [← h3]; exact hc)).1
    have := (atL_piece hp a).2 x hx
    rw [hx]
    exact ⟨this.1.symm, this.2.symm⟩

end Go.Proofs.Ythdnpilkkegniaa
