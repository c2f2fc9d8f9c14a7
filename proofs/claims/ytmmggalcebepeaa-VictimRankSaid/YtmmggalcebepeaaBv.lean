/-
  Plain facts: the model's operations on words of 64 digits, said of BitVec 64, and worlds that are later than a world (for statements that draw their order). No condition.
-/
import Derived.WalkKit
import Derived.WalkSpells
import Derived.WalkLawsBesides
import Derived.BigQuiet
import Derived.Lib.Hide
import Derived.Handy
namespace Go.Proofs.Ytmmggalcebepeaa
open Go.RowKit

/-- A word's number. -/
def u (x : BitVec 64) : Int := (x.toNat : Int)

theorem u_nonneg (x : BitVec 64) : 0 ≤ u x := Int.natCast_nonneg _
theorem u_lt (x : BitVec 64) : u x < 18446744073709551616 := by
  have := x.isLt
  unfold u
  omega
theorem u_inj {x y : BitVec 64} : (u x = u y) ↔ (x = y) := by
  unfold u
  constructor
  · intro h
    exact BitVec.eq_of_toNat_eq (by exact_mod_cast h)
  · intro h; rw [h]
theorem u_of (n : Int) (h0 : 0 ≤ n) (h : n < 18446744073709551616) : ∃ x : BitVec 64, n = u x := by
  obtain ⟨k, rfl⟩ := Int.eq_ofNat_of_zero_le h0
  refine ⟨BitVec.ofNat 64 k, ?_⟩
  unfold u
  rw [BitVec.toNat_ofNat, Nat.mod_eq_of_lt (by omega)]

theorem u_and (x y : BitVec 64) : bits .and .u64 (u x) (u y) = u (x &&& y) := by
  have hx := x.isLt
  have hy := y.isLt
  unfold u
  rw [u64_and_nat _ _ (by omega) (by omega), BitVec.toNat_and]
theorem u_or (x y : BitVec 64) : bits .or .u64 (u x) (u y) = u (x ||| y) := by
  have hx := x.isLt
  have hy := y.isLt
  unfold u
  rw [u64_or_nat _ _ (by omega) (by omega), BitVec.toNat_or]
theorem u_xor (x y : BitVec 64) : bits .xor .u64 (u x) (u y) = u (x ^^^ y) := by
  have hx := x.isLt
  have hy := y.isLt
  unfold u
  rw [u64_xor_nat _ _ (by omega) (by omega), BitVec.toNat_xor]
theorem u_andNot (x y : BitVec 64) : bits .andNot .u64 (u x) (u y) = u (x &&& ~~~ y) := by
  have hx := x.isLt
  have hy := y.isLt
  unfold u
  rw [u64_andNot_nat _ _ (by omega) (by omega), BitVec.toNat_and, BitVec.toNat_not]
theorem u_shr (x : BitVec 64) (n : Nat) : u x / 2 ^ n = u (x >>> n) := by
  unfold u
  rw [BitVec.toNat_ushiftRight, Nat.shiftRight_eq_div_pow]
  simp
theorem u_wrap (n : Nat) : IntKind.u64.wrap (n : Int) = u (BitVec.ofNat 64 n) := by
  unfold u
  rw [IntKind.wrap_u64, BitVec.toNat_ofNat]
  simp
theorem u_shl (x : BitVec 64) (n : Nat) : IntKind.u64.wrap (u x * 2 ^ n) = u (x <<< n) := by
  have e : u x * 2 ^ n = ((x.toNat * 2 ^ n : Nat) : Int) := by unfold u; simp
  rw [e, u_wrap]
  have e2 : BitVec.ofNat 64 (x.toNat * 2 ^ n) = x <<< n := by
    apply BitVec.eq_of_toNat_eq
    rw [BitVec.toNat_ofNat, BitVec.toNat_shiftLeft, Nat.shiftLeft_eq]
  rw [e2]
theorem u_add (x y : BitVec 64) : IntKind.u64.wrap (u x + u y) = u (x + y) := by
  have e : u x + u y = ((x.toNat + y.toNat : Nat) : Int) := by unfold u; simp
  rw [e, u_wrap]
  have e2 : BitVec.ofNat 64 (x.toNat + y.toNat) = x + y := by
    apply BitVec.eq_of_toNat_eq
    rw [BitVec.toNat_ofNat, BitVec.toNat_add]
  rw [e2]

theorem below_of {w W w1 : World} (h : Below w.heap.size w W) (hb : Below W.heap.size W w1) : Below w.heap.size w w1 := h.trans (hb.mono h.size)

/-- All old cells and marks read as before. -/
theorem bcell {B : Nat} {W w1 : World} (hb : Below B W w1) : (∀ b o, b < B → w1.cell? ⟨b, o, none⟩ = W.cell? ⟨b, o, none⟩) ∧ (∀ b o, b < B → w1.frozen? ⟨b, o, none⟩ = W.frozen? ⟨b, o, none⟩) :=
  ⟨fun b o h => hb.cell (p := ⟨b, o, none⟩) h, fun b o h => hb.frozen (p := ⟨b, o, none⟩) h⟩

/-- The cells of a block of two, of three, in a later world. -/
theorem cells2 {W w1 : World} {b : Nat} {c0 c1 : Value} (hb : Below W.heap.size W w1) (hlt : b < W.heap.size) (h0 : W.cell? ⟨b, 0, none⟩ = some c0) (h1 : W.cell? ⟨b, 1, none⟩ = some c1)
    (f0 : W.frozen? ⟨b, 0, none⟩ = false) (f1 : W.frozen? ⟨b, 1, none⟩ = false) :
    w1.cell? ⟨b, 0, none⟩ = some c0 ∧ w1.cell? ⟨b, 1, none⟩ = some c1 ∧ w1.frozen? ⟨b, 0, none⟩ = false ∧ w1.frozen? ⟨b, 1, none⟩ = false ∧ b < w1.heap.size :=
  ⟨(hb.cell hlt).trans h0, (hb.cell hlt).trans h1, (hb.frozen hlt).trans f0, (hb.frozen hlt).trans f1, Nat.lt_of_lt_of_le hlt hb.size⟩
theorem cells3 {W w1 : World} {b : Nat} {c0 c1 c2 : Value} (hb : Below W.heap.size W w1) (hlt : b < W.heap.size) (h0 : W.cell? ⟨b, 0, none⟩ = some c0) (h1 : W.cell? ⟨b, 1, none⟩ = some c1) (h2 : W.cell? ⟨b, 2, none⟩ = some c2)
    (f0 : W.frozen? ⟨b, 0, none⟩ = false) (f1 : W.frozen? ⟨b, 1, none⟩ = false) (f2 : W.frozen? ⟨b, 2, none⟩ = false) :
    w1.cell? ⟨b, 0, none⟩ = some c0 ∧ w1.cell? ⟨b, 1, none⟩ = some c1 ∧ w1.cell? ⟨b, 2, none⟩ = some c2 ∧ w1.frozen? ⟨b, 0, none⟩ = false ∧ w1.frozen? ⟨b, 1, none⟩ = false ∧ w1.frozen? ⟨b, 2, none⟩ = false ∧ b < w1.heap.size :=
  ⟨(hb.cell hlt).trans h0, (hb.cell hlt).trans h1, (hb.cell hlt).trans h2, (hb.frozen hlt).trans f0, (hb.frozen hlt).trans f1, (hb.frozen hlt).trans f2, Nat.lt_of_lt_of_le hlt hb.size⟩

theorem cell_lt {w : World} {o : Obj} {b i : Nat} (h : b < w.heap.size) : (w.alloc o).cell? ⟨b, i, none⟩ = w.cell? ⟨b, i, none⟩ := World.cell?_alloc_lt w o _ h
theorem cell_new {w : World} {cs : Array Value} {t : TypeId} {b i : Nat} (h : b = w.heap.size) : (w.alloc (.cells cs t)).cell? ⟨b, i, none⟩ = cs[i]? := by
  subst h
  exact cell_of_row _ _ _ _ _ (0, 0) (heap_alloc_new w _)

/-- The worlds below whose block B all is as in w. -/
def Later (B : Nat) (w : World) : Type := { w' : World // Below B w w' }
instance laterNonempty (B : Nat) (w : World) : Nonempty (Later B w) := ⟨⟨w, Below.refl _ _⟩⟩
def Later.at {B : Nat} {w : World} (x : Later B w) : World := x.1
theorem Later.below {B : Nat} {w : World} (x : Later B w) : Below B w x.at := x.2
theorem Later.cell {B : Nat} {w : World} (x : Later B w) {p : Addr} (h : p.block < B) : x.at.cell? p = w.cell? p := x.2.cell h
def InLater (B : Nat) (w : World) (w' : World) : Prop := ∃ x : Later B w, w' = x.at

theorem Later.mk {B : Nat} {w w' : World} (h : Below B w w') : ∃ x : Later B w, w' = x.at := ⟨⟨w', h⟩, rfl⟩

/-- A region that draws its order, whose operations read what lies below B and whose calls leave that alone: one walk in the order of the text. -/
theorem region_later {P : Program} {id : Nat} {Q : Exit → Act → World → Prop} {a : Act} {w : World} {l : List Oper} (B : Nat) (hm : P.follows .mixedOrders = true) (hB : Region.lexB .any l.toArray = true)
    (h : wpQuiet P l.toArray (fun w' => ∃ x : Later B w, w' = x.at) (fun a' => ∀ x : Later B w, Q .normal a' x.at) l a) : (Code.region id l.toArray true).wp P Q a w :=
  wp_region_quiet (C := fun w' => ∃ x : Later B w, w' = x.at) hm hB ⟨⟨w.drew, (Below.refl _ _).drew⟩, rfl⟩ (by
    have e : (fun a' => ∀ w', (∃ x : Later B w, w' = x.at) → Q .normal a' w') = (fun a' => ∀ x : Later B w, Q .normal a' x.at) := by
      funext a'
      apply propext
      exact ⟨fun k x => k _ ⟨x, rfl⟩, fun k w' ⟨x, hx⟩ => hx ▸ k x⟩
    rw [e]
    simpa using h)

/-- A callee's contract, met in a later world. -/
theorem later_of {P : Program} {f : FuncId} {args : Array Value} {B : Nat} {w : World} {x : Later B w} {v : Value} (hB : B ≤ w.heap.size)
    (h : Calls P f args x.at fun e w' => e = .returned v ∧ Below x.at.heap.size x.at w') : Calls P f args x.at fun e w'' => e = .returned v ∧ ∃ y : Later B w, w'' = y.at :=
  h.mono fun _ _ ⟨he, hb⟩ => ⟨he, Later.mk (x.below.trans (hb.mono (Nat.le_trans hB x.below.size)))⟩

theorem later_same {P : Program} {f : FuncId} {args : Array Value} {B : Nat} {w : World} {x : Later B w} {v : Value}
    (h : Calls P f args x.at fun e w' => e = .returned v ∧ x.at = w') : Calls P f args x.at fun e w'' => e = .returned v ∧ ∃ y : Later B w, w'' = y.at :=
  h.mono fun _ _ ⟨he, hb⟩ => ⟨he, x, hb.symm⟩

theorem quiet_same {P : Program} {f : FuncId} {args : Array Value} {w : World} {n : Nat} {v : Value}
    (h : Calls P f args (w.drewN n) fun e w' => e = .returned v ∧ w.drewN n = w') : Calls P f args (w.drewN n) fun e w' => e = .returned v ∧ ∃ m, w' = w.drewN m :=
  h.mono fun _ _ hh => ⟨hh.1, n, hh.2.symm⟩
theorem quiet_same2 {P : Program} {f : FuncId} {args : Array Value} {w : World} {k n : Nat} {v : Value}
    (h : Calls P f args (w.drewN (k + n)) fun e w' => e = .returned v ∧ w.drewN (k + n) = w') : Calls P f args (w.drewN (k + n)) fun e w' => e = .returned v ∧ ∃ m, w' = w.drewN (k + m) :=
  h.mono fun _ _ hh => ⟨hh.1, n, hh.2.symm⟩
theorem below_drewN {B : Nat} {a w : World} (h : Below B a w) (n : Nat) : Below B a (w.drewN n) := ⟨h.os, h.tape, h.output, h.size, h.block⟩

theorem lat2 {W : World} {b : Nat} {c0 c1 : Value} (hlt : b < W.heap.size) (h0 : W.cell? ⟨b, 0, none⟩ = some c0) (h1 : W.cell? ⟨b, 1, none⟩ = some c1) :
    (∀ x : Later W.heap.size W, x.at.cell? ⟨b, 0, none⟩ = some c0) ∧ (∀ x : Later W.heap.size W, x.at.cell? ⟨b, 1, none⟩ = some c1) :=
  ⟨fun x => (x.cell hlt).trans h0, fun x => (x.cell hlt).trans h1⟩
theorem lat3 {W : World} {b : Nat} {c0 c1 c2 : Value} (hlt : b < W.heap.size) (h0 : W.cell? ⟨b, 0, none⟩ = some c0) (h1 : W.cell? ⟨b, 1, none⟩ = some c1) (h2 : W.cell? ⟨b, 2, none⟩ = some c2) :
    (∀ x : Later W.heap.size W, x.at.cell? ⟨b, 0, none⟩ = some c0) ∧ (∀ x : Later W.heap.size W, x.at.cell? ⟨b, 1, none⟩ = some c1) ∧ (∀ x : Later W.heap.size W, x.at.cell? ⟨b, 2, none⟩ = some c2) :=
  ⟨fun x => (x.cell hlt).trans h0, fun x => (x.cell hlt).trans h1, fun x => (x.cell hlt).trans h2⟩

end Go.Proofs.Ytmmggalcebepeaa
