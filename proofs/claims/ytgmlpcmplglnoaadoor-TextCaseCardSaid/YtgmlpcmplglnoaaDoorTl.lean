/-
  What text.parseLong returns. Conditions: the library's tables hold what its text lays (Env), the text is shorter than the model's bound.
-/
import Derived.Test.YtgmlpcmplglnoaaDoorTs
import Derived.Deep.AppendSrc
import Derived.Lib.AppendStr
import Derived.Lib.AppendZerosOnto
namespace Go.Proofs.YtgmlpcmplglnoaaDoor
open Go.RowKit
set_option maxRecDepth 100000

def zs (k : Nat) : ByteArray := ⟨Array.replicate k 0⟩
theorem zs_size (k : Nat) : (zs k).size = k := by simp [zs, ByteArray.size]
theorem zeroCells_u8 (k : Nat) : Builtin.zeroCells (Value.int .u8 0).cells k = Array.replicate k (Value.int .u8 0) := by
  apply Array.ext
  · simp [Builtin.zeroCells, Value.cells]
  · intro i h1 h2
    simp [Builtin.zeroCells, Value.cells, Nat.mod_one]
theorem byteCells_zs (k : Nat) : Go.byteCells (zs k) = List.replicate k (Value.int .u8 0) := by simp [Go.byteCells, zs]
theorem take_zs (k : Nat) : List.take k (List.map (fun b : UInt8 => Value.int IntKind.u8 ↑b.toNat) (zs k).data.toList) = List.replicate k (Value.int .u8 0) := by simp [zs]
theorem append_zeros_eq {P : Program} (w : World) (t tn u ty e : TypeId) (i : TypeInfo) (kq kn : IntKind) (ht : P.underlying t = some (.slice e)) (htn : P.underlying tn = some (.int kn)) (hu : P.underlying u = some .string) (hi : P.info? e = some i) (hz : i.zero = some (.int .u8 0)) (hs : i.size = 1) (hb : i.bytes = 1)
    (base : Option Addr) (sLen sCap k : Nat) (hk : k ≤ 1000) (hl : sLen ≤ 1000) (hc : sCap < sLen + k → Builtin.nextslicecap (sLen + k) sCap ≤ 281474976710656) (hlc : sLen ≤ sCap) (olds : List Value) (hold : (Builtin.firstCells i.size sLen (.slice base sLen sCap)).run P w.drew = .ok olds.toArray w.drew) :
    (Builtin.append_ #[t, tn] ty #[.slice base sLen sCap, .int kq k]).run P w = (Builtin.append_ #[t, u] ty #[.slice base sLen sCap, .string (zs k)]).run P w := by
  have hw : IntKind.i64.wrap (k : Int) = k := by rw [IntKind.wrap_i64]; omega
  have hneg : ¬ ((k : Int) < 0) := by omega
  have h48i : ¬ (281474976710656 < (k : Int)) := by omega
  have hsz := zs_size k
  have htk := take_zs k
  by_cases hroom : sLen + k ≤ sCap
  · by_cases hk0 : k = 0
    · subst hk0
      have hw0 : IntKind.i64.wrap 0 = 0 := by decide
      simp [Builtin.append_, run_underlying ht, run_underlying htn, run_underlying hu, sizeOf, typeInfo, hi, hs, hb, asInt, asIntOf, Builtin.lenOf, hsz, Builtin.firstCells, hlc, hw0]
    · have hz1 := zeroCells_u8 k
      simp [Builtin.append_, run_underlying ht, run_underlying htn, run_underlying hu, sizeOf, typeInfo, zeroValue, hi, hz, hs, hb, asInt, asIntOf, hw, hneg, h48i, Builtin.lenOf, hsz, Builtin.firstCells, htk, hroom, hk0, hz1]
  · have hS := Src.ofString (P := P) w hu (zs k)
    rw [← hs, hsz] at hS
    have hnc := hc (by omega)
    rw [Lib.run_append_grow_zeros w t tn ty e i (.int .u8 0) kq kn ht htn hi hz base sLen sCap olds hold k (by omega) (by omega) (by omega) (by omega) (by rw [hb]; omega) (by rw [hb]; omega),
      run_append_grow_src w t u ty e i (.int .u8 0) ht hi hz base sLen sCap olds hold (.string (zs k)) k _ hS (by omega) (by omega) (by rw [hb]; omega)]
    rw [byteCells_zs, zeroCells_u8 k, ← List.toArray_replicate, ← List.append_toArray]

theorem nextcap_small (n c : Nat) (h : n ≤ 200) (hc : c < n) : Builtin.nextslicecap n c ≤ 281474976710656 := by
  unfold Builtin.nextslicecap
  split
  · omega
  · split <;> omega
theorem strCells_zs (k : Nat) : Lib.strCells (zs k) = u8s (List.replicate k 0) := by simp [Lib.strCells, zs, u8s]
/-- Zeros behind a row of its own. -/
theorem run_append_zeros (w : World) (base t tn u ty e : Nat) (i : TypeInfo) (kq kn : IntKind) (ht : Tryd.prog.underlying t = some (.slice e)) (htn : Tryd.prog.underlying tn = some (.int kn)) (hu : Tryd.prog.underlying u = some .string) (hi : Tryd.prog.info? e = some i) (hz : i.zero = some (.int .u8 0)) (hs : i.size = 1) (hb : i.bytes = 1)
    (v : Value) (n : Nat) (xs : List Value) (hown : w.ownsRow base e 1 v n xs) (k : Nat) (hk : n + k ≤ 200) (hbase : base ≤ w.heap.size) :
    ∃ v' w', (Builtin.append_ #[t, tn] ty #[v, .int kq k]).run Tryd.prog w = .ok v' w' ∧ w'.ownsRow base e 1 v' (n + k) (xs ++ u8s (List.replicate k 0)) ∧ w.grownBy w' v.ownBlock ∧ (v' = .slice none 0 0 ↔ v = .slice none 0 0 ∧ k = 0) := by
  obtain ⟨v', w', hr, h1, h2, h3⟩ := Lib.run_append_own_string (P := Tryd.prog) w base t u ty e i ht hu hi hz hs hb v n xs hown (zs k) (by rw [zs_size]; simp only [maxLen]; omega) (by rw [zs_size]; omega) hbase
  rw [zs_size] at h1 h3
  rw [strCells_zs] at h1
  refine ⟨v', w', ?_, h1, h2, h3⟩
  rw [← hr]
  rcases hown.2 with ⟨rfl, rfl⟩ | ⟨g, cap, cur, rfl, hg, hcur, hnc, hcm, hcs, htk⟩
  · exact append_zeros_eq w t tn u ty e i kq kn ht htn hu hi hz hs hb none 0 0 k (by omega) (by omega) (fun h => nextcap_small _ _ (by omega) h) (Nat.le_refl _) [] (run_firstCells_none w.drew _ _ _ _)
  · exact append_zeros_eq w t tn u ty e i kq kn ht htn hu hi hz hs hb (some ⟨g, 0, none⟩) n cap k (by omega) (by omega) (fun h => nextcap_small _ _ (by omega) h) hnc xs (run_firstCells_some w.drew _ _ _ _ _ xs (by rw [hs]; exact hown.1) (by simpa using hown.cells rfl))

/-- Nothing behind a row. -/
theorem run_append_none (w : World) (base t ty e : Nat) (i : TypeInfo) (ht : Tryd.prog.underlying t = some (.slice e)) (hi : Tryd.prog.info? e = some i)
    (v : Value) (n : Nat) (xs : List Value) (hown : w.ownsRow base e 1 v n xs) :
    (Builtin.append_ #[t, t] ty #[v, .slice none 0 0]).run Tryd.prog w = .ok v w := by
  rcases hown.2 with ⟨rfl, rfl⟩ | ⟨g, cap, cur, rfl, hg, hcur, hnc, hcm, hcs, htk⟩
  · simp [Builtin.append_, run_underlying ht, sizeOf, typeInfo, hi, Builtin.lenOf, Builtin.firstCells]
  · simp [Builtin.append_, run_underlying ht, sizeOf, typeInfo, hi, Builtin.lenOf, Builtin.firstCells, hnc, storeCells]

def longL (l : List UInt8) : Option (List Int) :=
  match grsL (Lib.cut l [58, 58]).1, grsL (Lib.cut l [58, 58]).2.1 with
  | some a, some b => if a.length + b.length ≤ 16 ∧ (Lib.cut l [58, 58]).2.2 = decide (a.length + b.length < 16) then some (a ++ List.replicate (16 - a.length - b.length) 0 ++ b) else none
  | _, _ => none

theorem longL_none1 {l : List UInt8} (h : grsL (Lib.cut l [58, 58]).1 = none) : longL l = none := by unfold longL; rw [h]
theorem longL_none2 {l : List UInt8} (h : grsL (Lib.cut l [58, 58]).2.1 = none) : longL l = none := by
  unfold longL
  rw [h]
  cases grsL (Lib.cut l [58, 58]).1 <;> rfl
theorem longL_some {l : List UInt8} {a b : List Int} (h1 : grsL (Lib.cut l [58, 58]).1 = some a) (h2 : grsL (Lib.cut l [58, 58]).2.1 = some b) :
    longL l = if a.length + b.length ≤ 16 ∧ (Lib.cut l [58, 58]).2.2 = decide (a.length + b.length < 16) then some (a ++ List.replicate (16 - a.length - b.length) 0 ++ b) else none := by unfold longL; rw [h1, h2]
theorem cut_len (l sep : List UInt8) : (Lib.cut l sep).1.length ≤ l.length ∧ (Lib.cut l sep).2.1.length ≤ l.length := by
  unfold Lib.cut
  split
  · simp only [List.length_take, List.length_drop]
    omega
  · simp

theorem wpList_append_run {P : Program} {ops : Array Oper} {rest : List Oper} {o : Oper} {a : Act} {Q : Exit → Act → World → Prop} (hgd : o.guard = none) (s x : Operand) (t u : TypeId)
    (ho : o.op = .call { callee := .builtin .append, args := #[s, x], argTypes := #[t, u] }) (v y v' : Value) (w w' : World) (hs : a.eval s = v) (hx : a.eval x = y)
    (hr : (Builtin.append_ #[t, u] o.type #[v, y]).run P w = .ok v' w') (h : wpList P ops Q rest (a.put o.dst v') w') : wpList P ops Q (o :: rest) a w := by
  refine wpList_plain hgd fun K hK => ?_
  unfold Oper.wp execOp
  simp only [ho, resolve, invoke, builtin, Sem.run_bind, Sem.run_pure, Result.andThen_ok, List.map_toArray, List.map_cons, List.map_nil, hs, hx, hr]
  exact hK _ _ h
theorem splitK_len (sep : List UInt8) (save : Nat) : ∀ (k : Nat) (l : List UInt8), (Lib.splitK sep save k l).length ≤ k + 1
  | 0, l => by simp [Lib.splitK]
  | k + 1, l => by
    unfold Lib.splitK
    split
    · simp
    · have := splitK_len sep save k (l.drop ((Lib.index l sep).toNat + sep.length))
      simp only [List.length_cons]
      omega
theorem two_len : ∀ (ps : List (List UInt8)) (acc a : List Int), bytesGo two ps acc = some a → a.length = acc.length + 2 * ps.length
  | [], acc, a, h => by simp [bytesGo] at h; subst h; simp
  | p :: ps, acc, a, h => by
    rw [bytesGo_cons] at h
    cases hp : two p with
    | none => rw [hp] at h; cases h
    | some bs =>
      rw [hp] at h
      have h2 := two_len ps (acc ++ bs) a h
      have hb : bs.length = 2 := by
        unfold two at hp
        cases hg : grpL p with
        | none => rw [hg] at hp; cases hp
        | some n => rw [hg] at hp; simp at hp; subst hp; rfl
      rw [h2, List.length_append, List.length_cons, hb]
      omega
theorem grsL_len {l : List UInt8} {a : List Int} (h : grsL l = some a) : a.length ≤ 18 := by
  unfold grsL at h
  split at h
  · simp at h; subst h; simp
  · have h1 := two_len _ _ _ h
    have h2 := splitK_len [58] 0 (min 8 l.length) l
    unfold partsL at h1
    simp only [List.length_nil] at h1
    omega
theorem own_form {w : World} {base : Nat} {e : TypeId} {n : Nat} {v : Value} {xs : List Value} (h : w.ownsRow base e 1 v n xs) : ∃ A c, v = .slice A n c := by
  rcases h.2 with ⟨rfl, rfl⟩ | ⟨g, cap, cur, rfl, _⟩
  · exact ⟨none, 0, rfl⟩
  · exact ⟨_, _, rfl⟩
theorem bl (l : List UInt8) : (⟨l.toArray⟩ : ByteArray).data.toList = l := by simp

set_option maxHeartbeats 2000000 in
theorem parseLong_any (s : ByteArray) (w : World) (he : Env w) (hs : s.size < 4294967281) :
    Calls Tryd.prog 22 #[.string s] w (PartPost w (longL s.data.toList)) := by
  obtain ⟨i0, hi0, hz0, hz1, hz2⟩ := info_parts info_u8
  have hlen : s.data.toList.length = s.size := by simp
  have hcl := cut_len s.data.toList [58, 58]
  go_enter Tryd.func22, Tryd.ntmps22
  go_wp2_with fail
  refine (cut_any s ⟨#[58, 58]⟩ w he hs).mono ?_
  rintro e w1 ⟨rfl, hw1⟩
  have z1 := hw1.size
  have e1 := he.go hw1
  show _
  obtain ⟨cA, hcA⟩ : ∃ c, c = (Lib.cut s.data.toList [58, 58]).1 := ⟨_, rfl⟩
  obtain ⟨cB, hcB⟩ : ∃ c, c = (Lib.cut s.data.toList [58, 58]).2.1 := ⟨_, rfl⟩
  obtain ⟨cG, hcG⟩ : ∃ c, c = (Lib.cut s.data.toList [58, 58]).2.2 := ⟨_, rfl⟩
  simp only [← hcA, ← hcB, ← hcG] at hcl ⊢
  have cp1 := parseGroups_any ⟨cA.toArray⟩ w1 e1 (by simp [ByteArray.size]; omega)
  rw [bl] at cp1
  have HA := Lib.hid hcA
  have HB := Lib.hid hcB
  have HG := Lib.hid hcG
  clear hcA hcB hcG
  go_wp2_with fail
  refine cp1.mono ?_
  rintro e w2 ⟨v1, rfl, hown1, hw2⟩
  have z2 := hw2.size
  have e2 := e1.go hw2
  obtain ⟨A1, c1, rfl⟩ := own_form hown1
  have Hown1 := Lib.hid hown1
  clear hown1 cp1
  have cp2 := parseGroups_any ⟨cB.toArray⟩ w2 e2 (by simp [ByteArray.size]; omega)
  rw [bl] at cp2
  go_wp2_with fail
  refine cp2.mono ?_
  rintro e w3 ⟨v2, rfl, hown2, hw3⟩
  have z3 := hw3.size
  obtain ⟨A2, c2, rfl⟩ := own_form hown2
  have Hown2 := Lib.hid hown2
  have Hown1' := Lib.hid ((own_keep Hown1.out hw3).mono z1)
  have bW : Below w.heap.size w w3 := (hw1.trans (hw2.mono z1)).trans (hw3.mono (by omega))
  clear hown2 cp2
  cases hA : grsL cA with
  | none =>
    have HR := Lib.hid (show longL s.data.toList = none from longL_none1 (by rw [← HA.out]; exact hA))
    go_wp2
    refine bodyPost_ret (v := .tuple #[.slice none 0 0, .bool false]) (by simp [*, results, Tryd.results22, go_sem] <;> rfl) rfl ⟨.slice none 0 0, by rw [HR.out]; rfl, by rw [HR.out]; exact World.ownsRow_nil _ _ _ _, bW⟩
  | some a =>
    cases hB : grsL cB with
    | none =>
      have HR := Lib.hid (show longL s.data.toList = none from longL_none2 (by rw [← HB.out]; exact hB))
      go_wp2
      refine bodyPost_ret (v := .tuple #[.slice none 0 0, .bool false]) (by simp [*, results, Tryd.results22, go_sem] <;> rfl) rfl ⟨.slice none 0 0, by rw [HR.out]; rfl, by rw [HR.out]; exact World.ownsRow_nil _ _ _ _, bW⟩
    | some b =>
      have hL := longL_some (l := s.data.toList) (by rw [← HA.out]; exact hA) (by rw [← HB.out]; exact hB)
      rw [← HG.out] at hL
      have la := grsL_len hA
      have lb := grsL_len hB
      have la' : (a.length : Int) ≤ 18 := by omega
      have lb' : (b.length : Int) ≤ 18 := by omega
      go_upto_region 5 with fail
      obtain ⟨z, hz⟩ : ∃ z : Int, z = (16 : Int) - a.length - b.length := ⟨_, rfl⟩
      simp only [← hz]
      by_cases hn : z < 0
      · rw [if_neg (fun h => by omega)] at hL
        have HR := Lib.hid hL
        clear hL hz
        go_wp2
        refine bodyPost_ret (v := .tuple #[.slice none 0 0, .bool false]) (by simp [*, results, Tryd.results22, go_sem] <;> rfl) rfl ⟨.slice none 0 0, by rw [HR.out]; rfl, by rw [HR.out]; exact World.ownsRow_nil _ _ _ _, bW⟩
      · by_cases hp : 0 < z
        · cases cG with
          | false =>
            rw [if_neg (fun h => by have := h.2; simp at this; omega)] at hL
            have HR := Lib.hid hL
            clear hL hz
            go_wp2
            refine bodyPost_ret (v := .tuple #[.slice none 0 0, .bool false]) (by simp [*, results, Tryd.results22, go_sem] <;> rfl) rfl ⟨.slice none 0 0, by rw [HR.out]; rfl, by rw [HR.out]; exact World.ownsRow_nil _ _ _ _, bW⟩
          | true =>
            rw [if_pos ⟨by omega, by simp; omega⟩] at hL
            obtain ⟨k, rfl⟩ : ∃ k : Nat, z = k := ⟨z.toNat, by omega⟩
            rw [show 16 - a.length - b.length = k by omega] at hL
            have HR := Lib.hid hL
            have hk : a.length + k + b.length = 16 := by omega
            have hp' : 0 < k := by omega
            have lt0 := Hown1.out.lt
            simp only [hA, Option.getD_some] at lt0
            have o1 := Hown1'.out
            have o2 := Hown2.out
            simp only [hA, hB, Option.getD_some] at o1 o2
            clear hL hz Hown1 Hown1' Hown2 hA hB
            obtain ⟨v4, w4, hr4, hown4, hg4, hnil4⟩ := run_append_zeros w3 w.heap.size 40 3 9 40 5 i0 .i64 .i64 Tryd.underlying40 Tryd.underlying3 Tryd.underlying9 hi0 hz0 hz1 hz2 _ _ _ o1 k (by omega) (by omega)
            have hge1 := own_ge o1
            have lt1 := o1.lt
            have bX : Below w.heap.size w w4 := bW.grown hg4 (by omega) hge1
            have z4 := hg4.size
            rw [← u8s_append] at hown4
            rcases o2.2 with ⟨hv2, hb0⟩ | ⟨g2, cap2, cur2, hv2, hg2, hcur2, hnc2, hcm2, hcs2, htk2⟩
            · injection hv2 with q1 q2 q3
              subst q1 q3
              obtain rfl : b = [] := List.eq_nil_of_length_eq_zero hb0
              have hr5 := run_append_none w4 w.heap.size 40 40 5 i0 Tryd.underlying40 hi0 _ _ _ hown4
              have Hown4 := Lib.hid hown4
              have Hlt := Lib.hid lt1
              have Hge := Lib.hid hge1
              have Hg4 := Lib.hid hg4
              clear hown4 lt1 hge1 hg4 o1 o2 hnil4 lt0
              go_wp2_with (first
                | (at_builtin; refine wpList_append_run rfl (.tmp 50) (.tmp 51) _ _ rfl _ _ v4 w3 w4 rfl rfl hr4 ?_)
                | (at_builtin; refine wpList_append_run rfl (.tmp 53) (.tmp 54) _ _ rfl _ _ v4 w4 w4 rfl rfl hr5 ?_))
              refine bodyPost_ret (v := .tuple #[v4, .bool true]) (by simp [*, results, Tryd.results22, go_sem] <;> rfl) rfl ⟨v4, by rw [HR.out]; rfl, ?_, bX⟩
              rw [HR.out]
              have e := Hown4.out
              simpa using e
            · injection hv2 with q1 q2 q3
              subst q1 q3
              have o2' := o2.kept hg4 (.inr (fun h => by
                have h1 := (lt0 g2 h.symm).2
                omega))
              have hc2 := o2'.cells (g := g2) rfl
              have Hc2 := Lib.hid hc2
              have Hown4 := Lib.hid hown4
              have Hge := Lib.hid hge1
              have Hg4 := Lib.hid hg4
              have Hge4 := Lib.hid (own_ge hown4)
              clear hown4 lt1 lt0 hge1 hg4 o1 o2 hnil4 hc2 o2' hcur2 hnc2 hcm2 hcs2 htk2
              go_wp2_with (first
                | (at_builtin; refine wpList_append_run rfl (.tmp 50) (.tmp 51) _ _ rfl _ _ v4 w3 w4 rfl rfl hr4 ?_)
                | (at_builtin
                   refine wpList_append_own _ rfl (.tmp 53) (.tmp 54) _ rfl w.heap.size 5 i0 _ 1 1 Tryd.underlying40 hi0 hz0 hz1 hz2 rfl (by omega) _ _ _ rfl Hown4.out ⟨g2, 0, none⟩ b.length _ (u8s b) rfl (by simp [u8s]) Hc2.out (by simp [u8s, Value.oneCell']) (by simp only [maxLen]; omega) (by omega) (by omega) ?_
                   intro v5 w5 hown5 hg5 hat5
                   have H5 := Lib.hid hown5
                   have G5 := Lib.hid hg5
                   clear hown5 hg5 hat5))
              have bY : Below w.heap.size w w5 := bX.grown G5.out (by omega) Hge4.out
              refine bodyPost_ret (v := .tuple #[v5, .bool true]) (by simp [*, results, Tryd.results22, go_sem] <;> rfl) rfl ⟨v5, by rw [HR.out]; rfl, ?_, bY⟩
              rw [HR.out]
              have e := H5.out
              rw [← u8s_append] at e
              simpa [Nat.add_assoc] using e
        · cases cG with
          | true =>
            rw [if_neg (fun h => by have := h.2; simp at this; omega)] at hL
            have HR := Lib.hid hL
            clear hL hz
            go_wp2
            refine bodyPost_ret (v := .tuple #[.slice none 0 0, .bool false]) (by simp [*, results, Tryd.results22, go_sem] <;> rfl) rfl ⟨.slice none 0 0, by rw [HR.out]; rfl, by rw [HR.out]; exact World.ownsRow_nil _ _ _ _, bW⟩
          | false =>
            rw [if_pos ⟨by omega, by simp; omega⟩] at hL
            obtain ⟨k, rfl⟩ : ∃ k : Nat, z = k := ⟨z.toNat, by omega⟩
            rw [show 16 - a.length - b.length = k by omega] at hL
            have HR := Lib.hid hL
            have hk : a.length + k + b.length = 16 := by omega
            have hp' : ¬ 0 < k := by omega
            have lt0 := Hown1.out.lt
            simp only [hA, Option.getD_some] at lt0
            have o1 := Hown1'.out
            have o2 := Hown2.out
            simp only [hA, hB, Option.getD_some] at o1 o2
            clear hL hz Hown1 Hown1' Hown2 hA hB
            obtain ⟨v4, w4, hr4, hown4, hg4, hnil4⟩ := run_append_zeros w3 w.heap.size 40 3 9 40 5 i0 .i64 .i64 Tryd.underlying40 Tryd.underlying3 Tryd.underlying9 hi0 hz0 hz1 hz2 _ _ _ o1 k (by omega) (by omega)
            have hge1 := own_ge o1
            have lt1 := o1.lt
            have bX : Below w.heap.size w w4 := bW.grown hg4 (by omega) hge1
            have z4 := hg4.size
            rw [← u8s_append] at hown4
            rcases o2.2 with ⟨hv2, hb0⟩ | ⟨g2, cap2, cur2, hv2, hg2, hcur2, hnc2, hcm2, hcs2, htk2⟩
            · injection hv2 with q1 q2 q3
              subst q1 q3
              obtain rfl : b = [] := List.eq_nil_of_length_eq_zero hb0
              have hr5 := run_append_none w4 w.heap.size 40 40 5 i0 Tryd.underlying40 hi0 _ _ _ hown4
              have Hown4 := Lib.hid hown4
              have Hlt := Lib.hid lt1
              have Hge := Lib.hid hge1
              have Hg4 := Lib.hid hg4
              clear hown4 lt1 hge1 hg4 o1 o2 hnil4 lt0
              go_wp2_with (first
                | (at_builtin; refine wpList_append_run rfl (.tmp 50) (.tmp 51) _ _ rfl _ _ v4 w3 w4 rfl rfl hr4 ?_)
                | (at_builtin; refine wpList_append_run rfl (.tmp 53) (.tmp 54) _ _ rfl _ _ v4 w4 w4 rfl rfl hr5 ?_))
              refine bodyPost_ret (v := .tuple #[v4, .bool true]) (by simp [*, results, Tryd.results22, go_sem] <;> rfl) rfl ⟨v4, by rw [HR.out]; rfl, ?_, bX⟩
              rw [HR.out]
              have e := Hown4.out
              simpa using e
            · injection hv2 with q1 q2 q3
              subst q1 q3
              have o2' := o2.kept hg4 (.inr (fun h => by
                have h1 := (lt0 g2 h.symm).2
                omega))
              have hc2 := o2'.cells (g := g2) rfl
              have Hc2 := Lib.hid hc2
              have Hown4 := Lib.hid hown4
              have Hge := Lib.hid hge1
              have Hg4 := Lib.hid hg4
              have Hge4 := Lib.hid (own_ge hown4)
              clear hown4 lt1 lt0 hge1 hg4 o1 o2 hnil4 hc2 o2' hcur2 hnc2 hcm2 hcs2 htk2
              go_wp2_with (first
                | (at_builtin; refine wpList_append_run rfl (.tmp 50) (.tmp 51) _ _ rfl _ _ v4 w3 w4 rfl rfl hr4 ?_)
                | (at_builtin
                   refine wpList_append_own _ rfl (.tmp 53) (.tmp 54) _ rfl w.heap.size 5 i0 _ 1 1 Tryd.underlying40 hi0 hz0 hz1 hz2 rfl (by omega) _ _ _ rfl Hown4.out ⟨g2, 0, none⟩ b.length _ (u8s b) rfl (by simp [u8s]) Hc2.out (by simp [u8s, Value.oneCell']) (by simp only [maxLen]; omega) (by omega) (by omega) ?_
                   intro v5 w5 hown5 hg5 hat5
                   have H5 := Lib.hid hown5
                   have G5 := Lib.hid hg5
                   clear hown5 hg5 hat5))
              have bY : Below w.heap.size w w5 := bX.grown G5.out (by omega) Hge4.out
              refine bodyPost_ret (v := .tuple #[v5, .bool true]) (by simp [*, results, Tryd.results22, go_sem] <;> rfl) rfl ⟨v5, by rw [HR.out]; rfl, ?_, bY⟩
              rw [HR.out]
              have e := H5.out
              rw [← u8s_append] at e
              simpa [Nat.add_assoc] using e

end Go.Proofs.YtgmlpcmplglnoaaDoor
