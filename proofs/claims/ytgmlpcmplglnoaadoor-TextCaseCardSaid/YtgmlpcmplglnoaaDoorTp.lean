/-
  What text.numberTexts and text.groupTexts return. Conditions: the library's tables hold what its text lays (Env); the bytes lie where the argument says.
-/
import Derived.Test.YtgmlpcmplglnoaaDoorTf
import Derived.Test.YtgmlpcmplglnoaaDoorTs
import Derived.Test.YtgmlpcmplglnoaaDoorWh
import Derived.Test.YtgmlpcmplglnoaaDoorRegB
namespace Go.Proofs.YtgmlpcmplglnoaaDoor
open Go.RowKit
set_option maxRecDepth 100000

theorem info_str : (Tryd.prog.info? 9).map (fun i => (i.zero, i.size, i.bytes)) = some (some (.string ByteArray.empty), 1, 16) := by kernel_rfl
def strv (l : List (List UInt8)) : List Value := l.map fun x => .string ⟨x.toArray⟩
theorem strv_append (a b : List (List UInt8)) : strv (a ++ b) = strv a ++ strv b := List.map_append
theorem strv_len (a : List (List UInt8)) : (strv a).length = a.length := List.length_map ..
/-- The first k bytes as numbers. -/
def numTs (bs : Nat → Int) (k : Nat) : List (List UInt8) := (List.range k).map fun j => Lib.itoa (bs j)
theorem numTs_succ (bs : Nat → Int) (k : Nat) : numTs bs (k + 1) = numTs bs k ++ [Lib.itoa (bs k)] := by
  unfold numTs
  rw [List.range_succ, List.map_append]
  rfl
theorem numTs_len (bs : Nat → Int) (k : Nat) : (numTs bs k).length = k := by simp [numTs]

set_option maxHeartbeats 2000000 in
theorem numberTexts_any (g n c : Nat) (hn : n ≤ 16) (bs : Nat → Int) (hbs : ∀ j, j < n → 0 ≤ bs j ∧ bs j < 256) (w : World) (he : Env w) (hg : g < w.heap.size) (hcell : ∀ j, j < n → w.cell? ⟨g, j, none⟩ = some (.int .u8 (bs j))) :
    Calls Tryd.prog 35 #[.slice (some ⟨g, 0, none⟩) n c] w fun e w' => ∃ v, e = .returned v ∧ w'.ownsRow w.heap.size 9 1 v n (strv (numTs bs n)) ∧ Below w.heap.size w w' := by
  obtain ⟨i0, hi0, hz0, hz1, hz2⟩ := info_parts info_str
  have Hbs := Lib.hid hbs
  have Hcell := Lib.hid hcell
  clear hbs hcell
  go_enter Tryd.func35, Tryd.ntmps35
  go_wp2_with fail
  go_loopw [3, 8] (fun l i wr => ∃ k : Nat, k ≤ n ∧ i = .int .i64 k ∧ wr.ownsRow w.heap.size 9 1 l k (strv (numTs bs k)) ∧ Below w.heap.size w wr) (fun _ i _ => n - (intOf i).toNat)
  case atStart => exact ⟨0, by omega, rfl, World.ownsRow_nil _ _ _ _, Below.refl _ _⟩
  case round =>
    obtain ⟨k, hk, rfl, hown, hB⟩ := hrel
    have Hown := Lib.hid hown
    have Hge := Lib.hid (own_ge hown)
    have hbase := hB.size
    clear hown
    by_cases hlt : k < n
    · have hlt' : (k : Int) < (n : Int) := by omega
      obtain ⟨b0, b1⟩ := Hbs.out k hlt
      have hck := (hB.cell (p := ⟨g, k, none⟩) hg).trans (Hcell.out k hlt)
      have cn := itoa_any (bs k) (by omega) (by omega) wr (he.go hB)
      go_wp2_with fail
      refine cn.mono ?_
      rintro e w2 ⟨rfl, hw2⟩
      have hz2w := hw2.size
      have Hown2 := Lib.hid (own_keep Hown.out hw2)
      go_wp2_with (
        at_builtin
        refine wpList_append_own _ rfl (.tmp 12) (.tmp 16) _ rfl w.heap.size 9 i0 _ 1 16 Tryd.underlying55 hi0 hz0 hz1 hz2 rfl (by omega) _ _ _ rfl (Hown2.out.alloc _) ⟨w2.heap.size, 0, none⟩ 1 1 [.string ⟨(Lib.itoa (bs k)).toArray⟩] rfl rfl (World.news_of_block (cs := #[.string ⟨(Lib.itoa (bs k)).toArray⟩]) (t := 9) (fr := (0, 0)) (heap_alloc_new w2 _)) (by simp [Value.oneCell']) (by simp only [maxLen]; omega) (by omega) (by simp; omega) ?_
        intro v1 w3 hown1 hg1 hat1
        have H1 := Lib.hid hown1
        have G1 := Lib.hid hg1
        clear hown1 hg1 hat1
        )
      have bX : Below w.heap.size w w3 := ((hB.trans (hw2.mono hbase)).alloc (by omega) _).grown G1.out (by simp; omega) Hge.out
      refine ⟨⟨k + 1, by omega, by go_num, ?_, bX⟩, by simp [intOf]; omega⟩
      rw [numTs_succ, strv_append]
      exact H1.out
    · obtain rfl : k = n := by omega
      have hlt' : ¬ (k : Int) < (k : Int) := by omega
      go_wp2
      go_ret
      exact ⟨u3, rfl, Hown.out, hB⟩

/-- The first k groups, written. -/
def grpTs (bs : Nat → Int) (k : Nat) : List (List UInt8) := (List.range k).map fun j => hexL (bs (2 * j) * 256 + bs (2 * j + 1)).toNat
theorem grpTs_succ (bs : Nat → Int) (k : Nat) : grpTs bs (k + 1) = grpTs bs k ++ [hexL (bs (2 * k) * 256 + bs (2 * k + 1)).toNat] := by
  unfold grpTs
  rw [List.range_succ, List.map_append]
  rfl
theorem grpTs_len (bs : Nat → Int) (k : Nat) : (grpTs bs k).length = k := by simp [grpTs]
theorem or256 (a b : Int) (a0 : 0 ≤ a) (a1 : a < 256) (b0 : 0 ≤ b) (b1 : b < 256) : bits .or .u64 (a * 256) b = a * 256 + b := by
  obtain ⟨x, rfl⟩ : ∃ x : Nat, a = x := ⟨a.toNat, by omega⟩
  obtain ⟨y, rfl⟩ : ∃ y : Nat, b = y := ⟨b.toNat, by omega⟩
  have e1 : (x : Int) * 256 = u (BitVec.ofNat 64 (x * 256)) := by
    unfold u
    rw [BitVec.toNat_ofNat]
    omega
  have e2 : (y : Int) = u (BitVec.ofNat 64 y) := by
    unfold u
    rw [BitVec.toNat_ofNat]
    omega
  rw [e1, e2, u_or]
  unfold u
  rw [BitVec.toNat_or, BitVec.toNat_ofNat, BitVec.toNat_ofNat, Nat.mod_eq_of_lt (by omega), Nat.mod_eq_of_lt (by omega)]
  have h := Nat.shiftLeft_add_eq_or_of_lt (show y < 2 ^ 8 by omega) x
  rw [Nat.shiftLeft_eq, show (2 : Nat) ^ 8 = 256 from rfl] at h
  rw [← h]
  omega
theorem formatUint_16i (X Y : Int) (h : X = Y) (h0 : 0 ≤ Y) (h1 : Y < 65536) (w : World) (he : Env w) :
    Calls Tryd.prog 57 #[.int .u64 X, .int .i64 16] w fun e w' => e = .returned (.string ⟨(hexL Y.toNat).toArray⟩) ∧ Below w.heap.size w w' := by
  subst h
  have := formatUint_16 X.toNat (by omega) w he
  rw [show ((X.toNat : Nat) : Int) = X by omega] at this
  exact this

set_option maxHeartbeats 2000000 in
theorem groupTexts_any (g c : Nat) (bs : Nat → Int) (hbs : ∀ j, j < 16 → 0 ≤ bs j ∧ bs j < 256) (w : World) (he : Env w) (hg : g < w.heap.size) (hcell : ∀ j, j < 16 → w.cell? ⟨g, j, none⟩ = some (.int .u8 (bs j))) :
    Calls Tryd.prog 33 #[.slice (some ⟨g, 0, none⟩) 16 c] w fun e w' => ∃ v, e = .returned v ∧ w'.ownsRow w.heap.size 9 1 v 8 (strv (grpTs bs 8)) ∧ Below w.heap.size w w' := by
  obtain ⟨i0, hi0, hz0, hz1, hz2⟩ := info_parts info_str
  have Hbs := Lib.hid hbs
  have Hcell := Lib.hid hcell
  clear hbs hcell
  go_enter Tryd.func33, Tryd.ntmps33
  go_wp2_with fail
  go_loopw [3, 4] (fun l i wr => ∃ k : Nat, k ≤ 8 ∧ i = .int .i64 (2 * (k : Int)) ∧ wr.ownsRow w.heap.size 9 1 l k (strv (grpTs bs k)) ∧ Below w.heap.size w wr) (fun _ i _ => 16 - (intOf i).toNat)
  case atStart => exact ⟨0, by omega, rfl, World.ownsRow_nil _ _ _ _, Below.refl _ _⟩
  case round =>
    obtain ⟨k, hk, rfl, hown, hB⟩ := hrel
    have Hown := Lib.hid hown
    have Hge := Lib.hid (own_ge hown)
    have hz := hB.size
    clear hown
    obtain ⟨W, rfl⟩ : ∃ W, W = wr := ⟨_, rfl⟩
    by_cases hlt : k < 8
    · have hlt' : 2 * (k : Int) < 16 := by omega
      obtain ⟨a0, a1⟩ := Hbs.out (2 * k) (by omega)
      obtain ⟨b0, b1⟩ := Hbs.out (2 * k + 1) (by omega)
      have hca := (hB.cell (p := ⟨g, 2 * k, none⟩) hg).trans (Hcell.out (2 * k) (by omega))
      have hcb := (hB.cell (p := ⟨g, 2 * k + 1, none⟩) hg).trans (Hcell.out (2 * k + 1) (by omega))
      have hgW : g < W.heap.size := by omega
      have La := fun x : Later W.heap.size W => (x.cell (p := ⟨g, 2 * k, none⟩) hgW).trans hca
      have Lb := fun x : Later W.heap.size W => (x.cell (p := ⟨g, 2 * k + 1, none⟩) hgW).trans hcb
      have HE := fun x : Later W.heap.size W => Lib.hid ((he.go hB).go x.below)
      have hor := or256 _ _ a0 a1 b0 b1
      have hor0 : 0 ≤ bs (2 * k) * 256 + bs (2 * k + 1) := by omega
      have hor1 : bs (2 * k) * 256 + bs (2 * k + 1) < 65536 := by omega
      go_wp2_with fail
      refine region_tail1 15 W.heap.size u3 (by kernel_rfl) (by kernel_rfl) (.inl ⟨rfl, fun _ => by simp [go_sem]⟩) (fun _ _ _ h => h) ?_
      simp only [Nat.reduceSub, List.take_succ_cons, List.take_zero, List.drop_succ_cons, List.drop_zero, Act.put, List.setIfInBounds_toArray, List.set_cons_succ, List.set_cons_zero]
      repeat (go_big_quiet_step ((go_at_call 57; exact later_of (Nat.le_refl _) (formatUint_16i _ _ rfl hor0 hor1 _ (HE _).out))))
      refine wpQuiet_nil ?_
      intro x
      have hx : Below w.heap.size w x.at := hB.trans (x.below.mono hz)
      have Hown2 := Lib.hid (own_keep Hown.out x.below)
      have hzx := x.below.size
      clear La Lb HE hca hcb Hown hgW
      generalize x.at = w2 at *
      clear x
      go_wp2_with (
        at_builtin
        refine wpList_append_own _ rfl (.tmp 11) (.tmp 26) _ rfl w.heap.size 9 i0 _ 1 16 Tryd.underlying55 hi0 hz0 hz1 hz2 rfl (by omega) _ _ _ rfl (Hown2.out.alloc _) ⟨w2.heap.size, 0, none⟩ 1 1 [.string ⟨(hexL (bs (2 * k) * 256 + bs (2 * k + 1)).toNat).toArray⟩] rfl rfl (World.news_of_block (cs := #[.string ⟨(hexL (bs (2 * k) * 256 + bs (2 * k + 1)).toNat).toArray⟩]) (t := 9) (fr := (0, 0)) (heap_alloc_new w2 _)) (by simp [Value.oneCell']) (by simp only [maxLen]; omega) (by omega) (by simp; omega) ?_
        intro v1 w3 hown1 hg1 hat1
        have H1 := Lib.hid hown1
        have G1 := Lib.hid hg1
        clear hown1 hg1 hat1
        )
      have bX : Below w.heap.size w w3 := (hx.alloc (by omega) _).grown G1.out (by simp; omega) Hge.out
      refine ⟨⟨k + 1, by omega, by go_num, ?_, bX⟩, by simp [intOf]; omega⟩
      rw [grpTs_succ, strv_append]
      exact H1.out
    · obtain rfl : k = 8 := by omega
      have hlt' : ¬ 2 * ((8 : Nat) : Int) < 16 := by omega
      go_wp2
      go_ret
      exact ⟨u3, rfl, Hown.out, hB⟩

end Go.Proofs.YtgmlpcmplglnoaaDoor
