/-
  What text.split, text.parseShort and text.parseGroups return. Conditions: the library's tables hold what its text lays (Env), the text is shorter than the model's bound.
-/
import Derived.Test.YtgmlpcmplglnoaaDoorTe
import Derived.Test.YtgmlpcmplglnoaaDoorTn
import Derived.Deep.Onto
namespace Go.Proofs.YtgmlpcmplglnoaaDoor
open Go.RowKit
set_option maxRecDepth 100000

/-- A text's parts, so many and one at most. -/
def partsL (c : UInt8) (n : Nat) (l : List UInt8) : List (List UInt8) := Lib.splitK [c] 0 (min n l.length) l

theorem tsplit_any (s : ByteArray) (c : UInt8) (n : Nat) (hn : 1 ≤ n) (hn2 : n ≤ 100) (w : World) (he : Env w) (hs : s.size < 4294967281) :
    Calls Tryd.prog 44 #[.string s, .string ⟨#[c]⟩, .int .i64 n] w fun e w' => ∃ (P : List ByteArray) (cap : Nat), e = .returned (.slice (some ⟨w.heap.size, 0, none⟩) P.length cap) ∧ P.map (·.data.toList) = partsL c n s.data.toList ∧ P.length ≤ n + 1 ∧ P.length ≤ cap ∧
      (∀ j x, P[j]? = some x → w'.cell? ⟨w.heap.size, j, none⟩ = some (.string x)) ∧ w.heap.size < w'.heap.size ∧ Below w.heap.size w w' := by
  obtain ⟨m, hm⟩ := he.max
  have hc := Tryd.strings_SplitN s ⟨#[c]⟩ (n + 1) m w hs hm (by simp [ByteArray.size]) (by omega) (by omega)
  rw [show min (n + 1) (s.size + 1) - 1 = min n s.size by omega, show min (n + 1) (s.size + 1) = min n s.size + 1 by omega] at hc
  have hl := Lib.splitB_length_le ⟨#[c]⟩ 0 (min n s.size) s
  have hd := Lib.splitB_data ⟨#[c]⟩ 0 (min n s.size) s
  generalize Lib.splitB ⟨#[c]⟩ 0 (min n s.size) s = P at *
  rw [show ((n + 1 : Nat) : Int) = (n : Int) + 1 by omega] at hc
  have HC := Lib.hid hc
  clear hc
  go_enter Tryd.func44, Tryd.ntmps44
  go_wp2_with fail
  refine HC.out.mono ?_
  rintro e w1 ⟨rfl, rfl⟩
  generalize hW1 : World.alloc w _ = W1
  have q1 : ∀ (j : Nat) x, P[j]? = some x → W1.cell? ⟨w.heap.size, j, none⟩ = some (.string x) := by
    intro j x hj
    subst hW1
    rw [World.cell?_alloc_new]
    have hlt : j < P.length := (List.getElem?_eq_some_iff.1 hj).1
    simp only [Lib.cellsOf, List.getElem?_toArray]
    rw [List.getElem?_append_left (by simpa using hlt), List.getElem?_map, hj, Option.map_some]
  have q2 : w.heap.size < W1.heap.size := by subst hW1; simp
  have q3 : Below w.heap.size w W1 := by subst hW1; exact (Below.refl _ w).alloc (Nat.le_refl _) _
  have q4 : P.map (·.data.toList) = partsL c n s.data.toList := by
    rw [hd]
    unfold partsL
    congr 1
  clear hW1 HC hd
  have Q1 := Lib.hid q1
  clear q1
  go_wp2
  refine bodyPost_ret (v := .slice (some ⟨w.heap.size, 0, none⟩) P.length (min n s.size + 1)) (by simp [*, results, Tryd.results44, go_sem] <;> rfl) rfl ⟨P, min n s.size + 1, rfl, q4, by omega, by omega, Q1.out, q2, q3⟩

/-- The bytes that parts stand for, one behind the other. -/
def bytesGo (f : List UInt8 → Option (List Int)) : List (List UInt8) → List Int → Option (List Int)
  | [], acc => some acc
  | p :: ps, acc => match f p with
    | none => none
    | some bs => bytesGo f ps (acc ++ bs)
theorem bytesGo_cons (f : List UInt8 → Option (List Int)) (p : List UInt8) (ps : List (List UInt8)) (acc : List Int) : bytesGo f (p :: ps) acc = match f p with | none => none | some bs => bytesGo f ps (acc ++ bs) := rfl
theorem bytesGo_none {f : List UInt8 → Option (List Int)} {p : List UInt8} {ps : List (List UInt8)} {acc : List Int} (h : f p = none) : bytesGo f (p :: ps) acc = none := by rw [bytesGo_cons, h]
theorem bytesGo_some {f : List UInt8 → Option (List Int)} {p : List UInt8} {ps : List (List UInt8)} {acc bs : List Int} (h : f p = some bs) : bytesGo f (p :: ps) acc = bytesGo f ps (acc ++ bs) := by rw [bytesGo_cons, h]
def one (p : List UInt8) : Option (List Int) := (numL 255 p).map fun n => [n]
def shortL (l : List UInt8) : Option (List Int) := if (partsL 46 4 l).length = 4 then bytesGo one (partsL 46 4 l) [] else none
def u8s (l : List Int) : List Value := l.map (Value.int .u8)
theorem u8s_append (a b : List Int) : u8s (a ++ b) = u8s a ++ u8s b := List.map_append
/-- What is handed back: a row of bytes of its own and whether there is one. -/
def PartPost (w : World) (o : Option (List Int)) (e : Ending) (w' : World) : Prop :=
  ∃ v, e = .returned (.tuple #[v, .bool o.isSome]) ∧ w'.ownsRow w.heap.size 5 1 v (o.getD []).length (u8s (o.getD [])) ∧ Below w.heap.size w w'
theorem numGo_bd (most : Int) : ∀ (l : List UInt8) (i : Nat) (n x : Int), 0 ≤ n → n ≤ most → numGo most l i n = some x → 0 ≤ x ∧ x ≤ most
  | [], _, n, x, h0, h1, h => by simp [numGo] at h; omega
  | b :: l, i, n, x, h0, h1, h => by
    rw [numGo_cons] at h
    by_cases hc : dgo b.toNat = true ∧ dgv b.toNat ≤ 9 ∧ ¬ (0 < i ∧ n = 0) ∧ n * 10 + dgv b.toNat ≤ most
    · rw [if_pos hc] at h
      have := dgv_bd b.toNat
      exact numGo_bd most l _ _ x (by omega) hc.2.2.2 h
    · rw [if_neg hc] at h; cases h
theorem numL_bd {most : Int} {l : List UInt8} {x : Int} (hm : 0 ≤ most) (h : numL most l = some x) : 0 ≤ x ∧ x ≤ most := by
  unfold numL at h
  split at h
  · cases h
  · exact numGo_bd most l 0 0 x (Int.le_refl _) hm h

theorem own_keep {w w' : World} {base : Nat} {e : TypeId} {size n : Nat} {v : Value} {xs : List Value} (h : w.ownsRow base e size v n xs) (hb : Below w.heap.size w w') : w'.ownsRow base e size v n xs := by
  obtain ⟨h1, h2⟩ := h
  refine ⟨h1, h2.imp id ?_⟩
  rintro ⟨g, cap, cur, e1, e2, e3, e4⟩
  exact ⟨g, cap, cur, e1, e2, (hb.block g (Array.getElem?_eq_some_iff.1 e3).1).trans e3, e4⟩

set_option maxHeartbeats 2000000 in
theorem parseShort_any (s : ByteArray) (w : World) (he : Env w) (hs : s.size < 4294967281) :
    Calls Tryd.prog 21 #[.string s] w (PartPost w (shortL s.data.toList)) := by
  obtain ⟨i0, hi0, hz0, hz1, hz2⟩ := info_parts info_u8
  go_enter Tryd.func21, Tryd.ntmps21
  go_wp2_with fail
  refine (tsplit_any s 46 4 (by omega) (by omega) w he hs).mono ?_
  rintro e W1 ⟨P, cap, rfl, hP, hPn, hPc, hcell, hsz, hB1⟩
  have hlen : P.length = (partsL 46 4 s.data.toList).length := by rw [← hP, List.length_map]
  by_cases h4 : P.length = 4
  · have hS : shortL s.data.toList = bytesGo one (partsL 46 4 s.data.toList) [] := if_pos (by omega)
    have h4' : ((P.length : Int) != 4) = false := by simp; omega
    have HP := Lib.hid hP
    have Hcell := Lib.hid hcell
    clear hP hcell hlen
    go_wp2_with fail
    go_loopw [5, 17] (fun l i wr => ∃ (k : Nat) (acc : List Int), k ≤ 4 ∧ i = .int .i64 k ∧ acc.length = k ∧ wr.ownsRow W1.heap.size 5 1 l acc.length (u8s acc) ∧ Below W1.heap.size W1 wr ∧ bytesGo one ((partsL 46 4 s.data.toList).drop k) acc = bytesGo one (partsL 46 4 s.data.toList) []) (fun _ i _ => 4 - (intOf i).toNat)
    case atStart => exact ⟨0, [], by omega, rfl, rfl, World.ownsRow_nil _ _ _ _, Below.refl _ _, rfl⟩
    case round =>
      obtain ⟨k, acc, hk, rfl, hal, hown, hB, hgo⟩ := hrel
      have Hown := Lib.hid hown
      have Hge := Lib.hid (own_ge hown)
      have hbase := hB.size
      clear hown
      by_cases hlt : k < 4
      · have hlt' : (k : Int) < (P.length : Int) := by omega
        obtain ⟨x, hx⟩ : ∃ x, P[k]? = some x := ⟨_, List.getElem?_eq_getElem (by omega)⟩
        have hck := (hB.cell (p := ⟨w.heap.size, k, none⟩) hsz).trans (Hcell.out k x hx)
        have hxp : (partsL 46 4 s.data.toList).drop k = x.data.toList :: (partsL 46 4 s.data.toList).drop (k + 1) := by
          rw [← HP.out, List.drop_eq_getElem_cons (by simp; omega)]
          congr 1
          have := (List.getElem?_eq_some_iff.1 hx).2
          simp [this]
        rw [hxp] at hgo
        clear hxp
        have cn := number_any x 255 (by omega) (by omega) wr
        cases hN : numL 255 x.data.toList with
        | none =>
          have hone : one x.data.toList = none := by unfold one; rw [hN]; rfl
          rw [bytesGo_none hone] at hgo
          have HR := Lib.hid (show shortL s.data.toList = none by rw [hS, ← hgo])
          rw [hN] at cn
          clear hgo hS
          go_wp2_with (go_at_call 28; refine cn.mono ?_; rintro e w2 ⟨rfl, hw2⟩)
          have bX : Below w.heap.size w w2 := (hB1.trans (hB.mono (Nat.le_of_lt hsz))).trans (hw2.mono (by omega))
          refine bodyPost_ret (v := .tuple #[.slice none 0 0, .bool false]) (by simp [*, results, Tryd.results21, go_sem] <;> rfl) rfl ⟨.slice none 0 0, by rw [HR.out]; rfl, by rw [HR.out]; exact World.ownsRow_nil _ _ _ _, bX⟩
        | some n =>
          have hone : one x.data.toList = some [n] := by unfold one; rw [hN]; rfl
          rw [bytesGo_some hone] at hgo
          obtain ⟨n0, n1⟩ := numL_bd (by omega) hN
          rw [hN] at cn
          go_wp2_with fail
          refine cn.mono ?_
          rintro e w2 ⟨rfl, hw2⟩
          have hz2w := hw2.size
          have Hown2 := Lib.hid (own_keep Hown.out hw2)
          go_wp2_with (
            at_builtin
            refine wpList_append_own _ rfl (.tmp 28) (.tmp 31) _ rfl W1.heap.size 5 i0 _ 1 1 Tryd.underlying40 hi0 hz0 hz1 hz2 rfl (by omega) _ _ _ rfl (Hown2.out.alloc _) ⟨w2.heap.size, 0, none⟩ 1 1 [.int .u8 n] rfl rfl (World.news_of_block (cs := #[.int .u8 n]) (t := 5) (fr := (0, 0)) (heap_alloc_new w2 _)) (by simp [Value.oneCell']) (by simp only [maxLen]; omega) (by omega) (by simp; omega) ?_
            intro v1 w3 hown1 hg1 hat1
            have H1 := Lib.hid hown1
            have G1 := Lib.hid hg1
            clear hown1 hg1 hat1
            )
          have bX : Below W1.heap.size W1 w3 := ((hB.trans (hw2.mono hbase)).alloc (by omega) _).grown G1.out (by simp; omega) Hge.out
          have hal2 : (acc ++ [n]).length = k + 1 := by simp; omega
          refine ⟨⟨k + 1, acc ++ [n], by omega, by go_num, hal2, ?_, bX, hgo⟩, by simp [intOf]; omega⟩
          rw [List.length_append, u8s_append]
          exact H1.out
      · obtain rfl : k = 4 := by omega
        have hlt' : ¬ ((4 : Nat) : Int) < (P.length : Int) := by omega
        rw [List.drop_eq_nil_of_le (by rw [← HP.out, List.length_map]; omega)] at hgo
        have HR := Lib.hid (show shortL s.data.toList = some acc by rw [hS, ← hgo]; rfl)
        clear hgo hS
        go_wp2
        refine bodyPost_ret (v := .tuple #[u5, .bool true]) (by simp [*, results, Tryd.results21, go_sem] <;> rfl) rfl ⟨u5, by rw [HR.out]; rfl, by rw [HR.out]; exact Hown.out.mono (Nat.le_of_lt hsz), hB1.trans (hB.mono (Nat.le_of_lt hsz))⟩
  · have HR := Lib.hid (show shortL s.data.toList = none from if_neg (by omega))
    have h4' : ((P.length : Int) != 4) = true := by rw [bne_iff_ne]; omega
    clear hcell hP
    go_wp2
    refine bodyPost_ret (v := .tuple #[.slice none 0 0, .bool false]) (by simp [*, results, Tryd.results21, go_sem] <;> rfl) rfl ⟨.slice none 0 0, by rw [HR.out]; rfl, by rw [HR.out]; exact World.ownsRow_nil _ _ _ _, hB1⟩

def two (p : List UInt8) : Option (List Int) := (grpL p).map fun n => [n / 256, n % 256]
def grsL (l : List UInt8) : Option (List Int) := if l = [] then some [] else bytesGo two (partsL 58 8 l) []
theorem grpGo_bd : ∀ (l : List UInt8) (n x : Int), 0 ≤ n → grpGo l n = some x → 0 ≤ x ∧ x < (n + 1) * 16 ^ l.length
  | [], n, x, h0, h => by simp [grpGo] at h; subst h; simp; omega
  | b :: l, n, x, h0, h => by
    rw [grpGo_cons] at h
    by_cases hc : dgo b.toNat = true
    · rw [if_pos hc] at h
      have hd := dgv_bd b.toNat
      obtain ⟨h1, h2⟩ := grpGo_bd l _ x (by omega) h
      refine ⟨h1, Int.lt_of_lt_of_le h2 ?_⟩
      rw [List.length_cons, pow16, Int.mul_comm (16 ^ l.length) 16, ← Int.mul_assoc]
      exact Int.mul_le_mul_of_nonneg_right (by omega) (Int.le_of_lt (Int.pow_pos (by decide)))
    · rw [if_neg hc] at h; cases h
theorem grpL_bd {l : List UInt8} {x : Int} (h : grpL l = some x) : 0 ≤ x ∧ x < 65536 := by
  unfold grpL at h
  split at h
  · cases h
  · rename_i hc
    obtain ⟨h1, h2⟩ := grpGo_bd l 0 x (Int.le_refl _) h
    have := (pow16_le l.length (by omega)).1
    omega
set_option maxHeartbeats 2000000 in
theorem parseGroups_any (s : ByteArray) (w : World) (he : Env w) (hs : s.size < 4294967281) :
    Calls Tryd.prog 45 #[.string s] w (PartPost w (grsL s.data.toList)) := by
  obtain ⟨i0, hi0, hz0, hz1, hz2⟩ := info_parts info_u8
  by_cases hs0 : s.data.toList = []
  · have HR := Lib.hid (show grsL s.data.toList = some [] from if_pos hs0)
    have hne : s.toList.isEmpty = true := by rw [ByteArray.toList_eq, hs0]; rfl
    clear hs0
    go_enter Tryd.func45, Tryd.ntmps45
    go_wp2
    refine bodyPost_ret (v := .tuple #[.slice none 0 0, .bool true]) (by simp [*, results, Tryd.results45, go_sem] <;> rfl) rfl ⟨.slice none 0 0, by rw [HR.out]; rfl, by rw [HR.out]; exact World.ownsRow_nil _ _ _ _, ?_⟩
    go_grown
  have hne : s.toList.isEmpty = false := by rw [ByteArray.toList_eq]; cases h : s.data.toList with | nil => exact absurd h hs0 | cons a b => rfl
  have hS : grsL s.data.toList = bytesGo two (partsL 58 8 s.data.toList) [] := if_neg hs0
  clear hs0
  go_enter Tryd.func45, Tryd.ntmps45
  go_wp2_with fail
  refine (tsplit_any s 58 8 (by omega) (by omega) w he hs).mono ?_
  rintro e W1 ⟨P, cap, rfl, hP, hPn, hPc, hcell, hsz, hB1⟩
  have HP := Lib.hid hP
  have Hcell := Lib.hid hcell
  clear hP hcell hne
  go_wp2_with fail
  go_loopw [4, 14] (fun l i wr => ∃ (k : Nat) (acc : List Int), k ≤ P.length ∧ i = .int .i64 k ∧ acc.length = 2 * k ∧ wr.ownsRow W1.heap.size 5 1 l acc.length (u8s acc) ∧ Below W1.heap.size W1 wr ∧ bytesGo two ((partsL 58 8 s.data.toList).drop k) acc = bytesGo two (partsL 58 8 s.data.toList) []) (fun _ i _ => P.length - (intOf i).toNat)
  case atStart => exact ⟨0, [], by omega, rfl, rfl, World.ownsRow_nil _ _ _ _, Below.refl _ _, rfl⟩
  case round =>
    obtain ⟨k, acc, hk, rfl, hal, hown, hB, hgo⟩ := hrel
    have Hown := Lib.hid hown
    have Hge := Lib.hid (own_ge hown)
    have hbase := hB.size
    clear hown
    by_cases hlt : k < P.length
    · have hlt' : (k : Int) < (P.length : Int) := by omega
      obtain ⟨x, hx⟩ : ∃ x, P[k]? = some x := ⟨_, List.getElem?_eq_getElem (by omega)⟩
      have hck := (hB.cell (p := ⟨w.heap.size, k, none⟩) hsz).trans (Hcell.out k x hx)
      have hxp : (partsL 58 8 s.data.toList).drop k = x.data.toList :: (partsL 58 8 s.data.toList).drop (k + 1) := by
        rw [← HP.out, List.drop_eq_getElem_cons (by simp; omega)]
        congr 1
        have := (List.getElem?_eq_some_iff.1 hx).2
        simp [this]
      rw [hxp] at hgo
      clear hxp
      have cn := group_any x wr
      cases hN : grpL x.data.toList with
      | none =>
        have hone : two x.data.toList = none := by unfold two; rw [hN]; rfl
        rw [bytesGo_none hone] at hgo
        have HR := Lib.hid (show grsL s.data.toList = none by rw [hS, ← hgo])
        rw [hN] at cn
        clear hgo hS
        go_wp2_with (go_at_call 68; refine cn.mono ?_; rintro e w2 ⟨rfl, hw2⟩)
        have bX : Below w.heap.size w w2 := (hB1.trans (hB.mono (Nat.le_of_lt hsz))).trans (hw2.mono (by omega))
        refine bodyPost_ret (v := .tuple #[.slice none 0 0, .bool false]) (by simp [*, results, Tryd.results45, go_sem] <;> rfl) rfl ⟨.slice none 0 0, by rw [HR.out]; rfl, by rw [HR.out]; exact World.ownsRow_nil _ _ _ _, bX⟩
      | some n =>
        have hone : two x.data.toList = some [n / 256, n % 256] := by unfold two; rw [hN]; rfl
        rw [bytesGo_some hone] at hgo
        obtain ⟨n0, n1⟩ := grpL_bd hN
        have hq0 : 0 ≤ n / 256 := by omega
        have hq1 : n / 256 < 256 := by omega
        rw [hN] at cn
        clear hone
        go_wp2_with fail
        refine cn.mono ?_
        rintro e w2 ⟨rfl, hw2⟩
        have hz2w := hw2.size
        have Hown2 := Lib.hid (own_keep Hown.out hw2)
        go_wp2_with (
          at_builtin
          refine wpList_append_own _ rfl (.tmp 25) (.tmp 31) _ rfl W1.heap.size 5 i0 _ 1 1 Tryd.underlying40 hi0 hz0 hz1 hz2 rfl (by omega) _ _ _ rfl (Hown2.out.alloc _) ⟨w2.heap.size, 0, none⟩ 2 2 [.int .u8 (n / 256), .int .u8 (n % 256)] rfl rfl (World.news_of_block (cs := #[.int .u8 (n / 256), .int .u8 (n % 256)]) (t := 5) (fr := (0, 0)) (heap_alloc_new w2 _)) (by simp [Value.oneCell']) (by simp only [maxLen]; omega) (by omega) (by simp; omega) ?_
          intro v1 w3 hown1 hg1 hat1
          have H1 := Lib.hid hown1
          have G1 := Lib.hid hg1
          clear hown1 hg1 hat1
          )
        have bX : Below W1.heap.size W1 w3 := ((hB.trans (hw2.mono hbase)).alloc (by omega) _).grown G1.out (by simp; omega) Hge.out
        have hal2 : (acc ++ [n / 256, n % 256]).length = 2 * (k + 1) := by simp; omega
        refine ⟨⟨k + 1, acc ++ [n / 256, n % 256], by omega, by go_num, hal2, ?_, bX, hgo⟩, by simp [intOf]; omega⟩
        rw [List.length_append, u8s_append]
        exact H1.out
    · obtain rfl : k = P.length := by omega
      have hlt' : ¬ ((P.length : Nat) : Int) < (P.length : Int) := by omega
      rw [List.drop_eq_nil_of_le (by rw [← HP.out, List.length_map]; omega)] at hgo
      have HR := Lib.hid (show grsL s.data.toList = some acc by rw [hS, ← hgo]; rfl)
      clear hgo hS
      go_wp2
      refine bodyPost_ret (v := .tuple #[u4, .bool true]) (by simp [*, results, Tryd.results45, go_sem] <;> rfl) rfl ⟨u4, by rw [HR.out]; rfl, by rw [HR.out]; exact Hown.out.mono (Nat.le_of_lt hsz), hB1.trans (hB.mono (Nat.le_of_lt hsz))⟩

end Go.Proofs.YtgmlpcmplglnoaaDoor
