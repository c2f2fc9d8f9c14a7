/-
  What Put, PutRoute and GetAll of package wire return. Condition: the bytes lie where the argument says, and are few.
-/
import Derived.Test.YtibhabglmkgaaaaVg
namespace Go.Proofs.Ytibhabglmkgaaaa
open Go.RowKit
set_option maxRecDepth 100000

set_option maxHeartbeats 1000000 in
theorem put_any (A : Option Addr) (c : Nat) (l : List Int) (p : Pf) (w : World) (h : Rd w A c l) (hb : l.length ≤ 400000) : Calls Try.prog 17 #[.slice A l.length c, .agg #[.int .u64 (u p.a.hi), .int .u64 (u p.a.lo), .bool p.a.v6, .int .i64 p.n]] w (RowPost w (l ++ putP p)) := by
  have hp := putP_le p
  have HR := Lib.hid h
  clear h
  go_enter Try.func17, Try.ntmps17
  go_wp2_with fail
  refine (prefixBytes_any p _).mono ?_
  rintro e w1 ⟨v1, rfl, ho1, hb1⟩
  obtain ⟨_, B, d, rfl, hm⟩ := own_rd ho1 (bd_putP p)
  have bw1 := below_of (w := w) (by go_grown) hb1
  have z1 := bw1.size
  have HM := Lib.hid hm
  clear ho1 hb1 hm
  go_wp2_with fail
  refine (concat_any w1.heap.size A B c d l (putP p) _ (by go_simp) (by go_simp) (by go_size) (HR.out.keep (by go_grown)) (HM.out.keep (by go_grown)) (by omega)).mono ?_
  rintro e w2 ⟨v2, rfl, ho2, hb2⟩
  have bw2 := below_of (w := w) (by go_grown) hb2
  have H2 := Lib.hid (own_base (base' := w.heap.size) ho2 (by simp; omega))
  clear ho2 hb2
  go_wp2
  go_ret
  exact ⟨_, rfl, H2.out, bw2⟩
set_option maxHeartbeats 1000000 in
theorem putRoute_any (A : Option Addr) (c : Nat) (l : List Int) (r : Rt) (w : World) (h : Rd w A c l) (hb : l.length ≤ 400000) : Calls Try.prog 19 #[.slice A l.length c, .agg #[.int .u64 (u r.p.a.hi), .int .u64 (u r.p.a.lo), .bool r.p.a.v6, .int .i64 r.p.n, .int .i64 r.hop]] w (RowPost w (l ++ putR r)) := by
  have hp := putR_le r
  have HR := Lib.hid h
  clear h
  go_enter Try.func19, Try.ntmps19
  go_wp2_with fail
  refine (routeBytes_any r _).mono ?_
  rintro e w1 ⟨v1, rfl, ho1, hb1⟩
  obtain ⟨_, B, d, rfl, hm⟩ := own_rd ho1 (bd_putR r)
  have bw1 := below_of (w := w) (by go_grown) hb1
  have z1 := bw1.size
  have HM := Lib.hid hm
  clear ho1 hb1 hm
  go_wp2_with fail
  refine (concat_any w1.heap.size A B c d l (putR r) _ (by go_simp) (by go_simp) (by go_size) (HR.out.keep (by go_grown)) (HM.out.keep (by go_grown)) (by omega)).mono ?_
  rintro e w2 ⟨v2, rfl, ho2, hb2⟩
  have bw2 := below_of (w := w) (by go_grown) hb2
  have H2 := Lib.hid (own_base (base' := w.heap.size) ho2 (by simp; omega))
  clear ho2 hb2
  go_wp2
  go_ret
  exact ⟨_, rfl, H2.out, bw2⟩

/-- Routes as cells. -/
def rt5 (r : Rt) : List Value := [.int .u64 (u r.p.a.hi), .int .u64 (u r.p.a.lo), .bool r.p.a.v6, .int .i64 r.p.n, .int .i64 r.hop]
def rtv (l : List Rt) : List Value := l.flatMap rt5
theorem rtv_append (a b : List Rt) : rtv (a ++ b) = rtv a ++ rtv b := List.flatMap_append
theorem rtv_one (a : Rt) : rtv [a] = rt5 a := by simp [rtv]
theorem rtv_len (l : List Rt) : (rtv l).length = l.length * 5 := by
  induction l with
  | nil => rfl
  | cons r l ih =>
    rw [show r :: l = [r] ++ l from rfl, rtv_append, List.length_append, ih, rtv_one, List.length_append]
    simp [rt5]
    omega
theorem rt5_cell (r : Rt) : ∀ u ∈ rt5 r, u.oneCell' = true := by
  intro u hu
  simp [rt5] at hu
  rcases hu with rfl | rfl | rfl | rfl | rfl <;> rfl
theorem info_rt : (Try.prog.info? 29).map (fun i => (i.zero, i.size, i.bytes)) = some (some (.agg #[.int .u64 0, .int .u64 0, .bool false, .int .i64 0, .int .i64 0]), 5, 40) := by kernel_rfl

theorem wpList_route {ops : Array Oper} {o : Oper} {a : Act} {w : World} {Q : Exit → Act → World → Prop} {rest : List Oper} (hgd : o.guard = none) (s x : Operand) (ho : o.op = .call { callee := .builtin .append, args := #[s, x], argTypes := #[36, 36] }) (base : Nat) (v : Value) (rs : List Rt) (hs : a.eval s = v)
    (hown : w.ownsRow base 29 5 v rs.length (rtv rs)) (g : Nat) (r : Rt) (hx : a.eval x = .slice (some ⟨g, 0, none⟩) 1 1) (hg : w.heap[g]? = some (.cells (rt5 r).toArray 29 (0, 0))) (hb : rs.length ≤ 1000000) (hbase : base ≤ w.heap.size)
    (h : ∀ v' w', w'.ownsRow base 29 5 v' (rs ++ [r]).length (rtv (rs ++ [r])) → Below base w w' → wpList Try.prog ops Q rest (a.put o.dst v') w') : wpList Try.prog ops Q (o :: rest) a w := by
  obtain ⟨i0, hi0, hz0, hz1, hz2⟩ := info_parts info_rt
  refine wpList_append_own w hgd s x _ ho base 29 i0 _ 5 40 Try.underlying36 hi0 hz0 hz1 hz2 rfl (by omega) v rs.length _ hs hown ⟨g, 0, none⟩ 1 1 (rt5 r) hx rfl (World.news_of_block (cs := (rt5 r).toArray) hg) (rt5_cell _) (by simp only [maxLen]; omega) (by omega) hbase ?_
  intro v' w' h1 h2 _
  refine h v' w' ?_ ((Below.refl base w).grown h2 hbase (own_ge hown))
  rw [rtv_append, rtv_one, List.length_append]
  exact h1
theorem grN_bd {l : List Int} (hb : ∀ x ∈ l, 0 ≤ x ∧ x < 256) (he : grE l = 0) : grN l ≤ l.length ∧ grN l ≤ 20 ∧ 4 ≤ grN l := by
  have hg : getE l = 0 := by
    by_cases hg : getE l = 0
    · exact hg
    · unfold grE at he
      rw [if_neg hg] at he
      exact absurd he hg
  obtain ⟨h1, h2, h3⟩ := getN_le hb hg
  have hh : hopE (l.drop (getN l)) = 0 := by
    unfold grE at he
    rw [if_pos hg] at he
    exact he
  have h4 : 2 ≤ (l.drop (getN l)).length := by
    unfold hopE at hh
    split at hh
    · cases hh
    · omega
  rw [List.length_drop] at h4
  unfold grN
  rw [if_pos he]
  omega
/-- More rounds than there are bytes change nothing. -/
theorem galF_more (l : List Int) (hb : ∀ x ∈ l, 0 ≤ x ∧ x < 256) : ∀ f, l.length ≤ f → galF f l = galF l.length l := by
  have key : ∀ (n f g : Nat) (l : List Int), (∀ x ∈ l, 0 ≤ x ∧ x < 256) → l.length ≤ n → l.length ≤ f → l.length ≤ g → galF f l = galF g l := by
    intro n
    induction n with
    | zero =>
      intro f g l hb hn hf hg
      have h0 : l.length = 0 := by omega
      cases f <;> cases g <;> simp [galF, h0]
    | succ n ih =>
      intro f g l hb hn hf hg
      by_cases h0 : l.length = 0
      · cases f <;> cases g <;> simp [galF, h0]
      · obtain ⟨f', rfl⟩ : ∃ f', f = f' + 1 := ⟨f - 1, by omega⟩
        obtain ⟨g', rfl⟩ : ∃ g', g = g' + 1 := ⟨g - 1, by omega⟩
        by_cases he : grE l = 0
        · obtain ⟨h1, h2, h3⟩ := grN_bd hb he
          have hd : (l.drop (grN l)).length = l.length - grN l := List.length_drop
          have e := ih f' g' (l.drop (grN l)) (bd_drop hb _) (by omega) (by omega) (by omega)
          simp only [galF, if_neg h0, if_pos he, e]
        · simp only [galF, if_neg h0, if_neg he]
  exact fun f hf => key l.length f l.length l hb (Nat.le_refl _) hf (Nat.le_refl _)
theorem gal_err {l : List Int} (h : ¬ galE l = 0) : galR l = [] := by
  have key : ∀ (f : Nat) (l : List Int), (galF f l).2 ≠ 0 → (galF f l).1 = [] := by
    intro f l h
    cases f with
    | zero => rfl
    | succ f =>
      unfold galF at h ⊢
      split
      · rfl
      · split
        · split
          · rename_i h0 h1 h2
            rw [if_neg h0, if_pos h1, if_pos h2] at h
            exact absurd rfl h
          · rfl
        · rfl
  exact key _ _ h
theorem gal_nil : galR [] = [] ∧ galE [] = 0 := ⟨rfl, rfl⟩
theorem gal_bad {l : List Int} (h0 : 0 < l.length) (he : grE l ≠ 0) : galR l = [] ∧ galE l = grE l := by
  obtain ⟨f, hf⟩ : ∃ f, l.length = f + 1 := ⟨l.length - 1, by omega⟩
  have hne : ¬ (l.length = 0) := by omega
  unfold galR galE
  rw [show galF l.length l = ([], grE l) from by conv => lhs; rw [hf]; simp only [galF, if_neg hne, if_neg he]]
  exact ⟨rfl, rfl⟩
theorem gal_go {l : List Int} (hb : ∀ x ∈ l, 0 ≤ x ∧ x < 256) (h0 : 0 < l.length) (he : grE l = 0) :
    galE l = galE (l.drop (grN l)) ∧ galR l = if galE (l.drop (grN l)) = 0 then grR l :: galR (l.drop (grN l)) else [] := by
  obtain ⟨f, hf⟩ : ∃ f, l.length = f + 1 := ⟨l.length - 1, by omega⟩
  have hne : ¬ (l.length = 0) := by omega
  obtain ⟨h1, h2, h3⟩ := grN_bd hb he
  have hd : (l.drop (grN l)).length = l.length - grN l := List.length_drop
  have e := galF_more (l.drop (grN l)) (bd_drop hb _) f (by omega)
  unfold galR galE
  have e2 : galF l.length l = if (galF (l.drop (grN l)).length (l.drop (grN l))).2 = 0 then (grR l :: (galF (l.drop (grN l)).length (l.drop (grN l))).1, 0) else ([], (galF (l.drop (grN l)).length (l.drop (grN l))).2) := by
    conv => lhs; rw [hf]
    simp only [galF, if_neg hne, if_pos he, e]
  rw [e2]
  split
  · rename_i hz
    exact ⟨hz.symm, rfl⟩
  · exact ⟨rfl, rfl⟩

/-- What is left to read, and what was read. -/
def EndRel (w : World) (l : List Int) (s v : Value) (wr : World) : Prop :=
  ∃ (rs : List Rt) (l' : List Int) (A : Option Addr) (c : Nat), s = .slice A l'.length c ∧ Rd w A c l' ∧ wr.ownsRow w.heap.size 29 5 v rs.length (rtv rs) ∧ Below w.heap.size w wr ∧ rs.length + l'.length ≤ l.length ∧
    galE l = galE l' ∧ galR l = if galE l' = 0 then rs ++ galR l' else []
def sLen : Value → Nat
  | .slice _ n _ => n
  | _ => 0
@[simp] theorem sLen_slice (A : Option Addr) (n c : Nat) : sLen (.slice A n c) = n := rfl
/-- A list of routes and an error. -/
def AllPost (w : World) (l : List Int) (e : Ending) (w' : World) : Prop := ∃ v, e = .returned (.tuple #[v, .int .i64 (galE l)]) ∧ w'.ownsRow w.heap.size 29 5 v (galR l).length (rtv (galR l)) ∧ Below w.heap.size w w'

set_option maxHeartbeats 2000000 in
theorem toEnd_any (A : Option Addr) (c : Nat) (l : List Int) (w : World) (h : Rd w A c l) (hb : l.length ≤ 400000) :
    Calls Try.prog 34 #[.slice A l.length c, .func (.func 12) #[] #[]] w (AllPost w l) := by
  obtain ⟨i0, hi0, hz0, hz1, hz2⟩ := info_parts info_rt
  have HR := Lib.hid h
  clear h
  go_enter Try.func34, Try.ntmps34
  go_wp2_with fail
  go_loopw [0, 6] (fun s v wr => EndRel w l s v wr) (fun s _ _ => sLen s)
  case atStart => exact ⟨[], l, A, c, rfl, HR.out, World.ownsRow_nil _ _ _ _, Below.refl _ _, by simp, rfl, by split <;> rename_i hz <;> first | rfl | exact gal_err hz⟩
  case round =>
    obtain ⟨rs, l', A', c', rfl, hr, hown, hB, hlen, he1, he2⟩ := hrel
    have Hr := Lib.hid hr
    have Hown := Lib.hid hown
    have HE1 := Lib.hid he1
    have HE2 := Lib.hid he2
    have hz := hB.size
    clear hr hown he1 he2
    by_cases h0 : 0 < l'.length
    · have t0 : decide (0 < (l'.length : Int)) = true := by simp; omega
      have hbd := Lib.hid Hr.out.2.2.1
      go_wp2_with fail
      refine (getRoute_any A' c' l' _ (Hr.out.keep hB)).mono ?_
      rintro e w1 ⟨rfl, hw1⟩
      have bw1 := hB.trans (hw1.mono hz)
      have z1 := hw1.size
      have Ho1 := Lib.hid (own_keep Hown.out hw1)
      clear hw1 Hown
      by_cases he : grE l' = 0
      · have t1 : (grE l' != 0) = false := by simp [he]
        obtain ⟨n1, n2, n3⟩ := grN_bd hbd.out he
        obtain ⟨g1, g2⟩ := gal_go hbd.out h0 he
        have G1 := Lib.hid g1
        have G2 := Lib.hid g2
        have hsl := fun W : World => slice_from A' l'.length c' (grN l') n1 W
        have Hge := Lib.hid (own_ge Ho1.out)
        clear g1 g2 he
        go_wp2_with (
          at_builtin
          refine wpList_route rfl (.tmp 23) (.tmp 25) rfl w.heap.size _ rs (by rfl) ((Ho1.out.alloc _).alloc _) (w1.heap.size + 1) (grR l') (by rfl) (heap_new_at (by simp)) (by omega) (by simp; omega) ?_
          intro v1 w3 hown1 hb1
          have H1 := Lib.hid hown1
          have b3 : Below w.heap.size w w3 := ((bw1.alloc (by omega) _).alloc (by simp; omega) _).trans hb1
          clear hown1
          )
        have hd : (l'.drop (grN l')).length = l'.length - grN l' := List.length_drop
        refine ⟨⟨rs ++ [grR l'], l'.drop (grN l'), cutA A' c' (grN l'), c' - grN l', ?_, ?_, H1.out, b3, ?_, ?_, ?_⟩, ?_⟩
        · rw [hd]
        · exact Hr.out.cut _ n1
        · rw [hd, List.length_append]
          simp
          omega
        · rw [HE1.out, G1.out]
        · rw [HE2.out, G1.out, G2.out]
          split <;> simp
        · simp
          omega
      · have t1 : (grE l' != 0) = true := by simp [he]
        obtain ⟨g2, g1⟩ := gal_bad h0 he
        have G1 := Lib.hid g1
        have HE := Lib.hid he
        clear g1 g2 he
        go_wp2
        go_ret2
        refine ⟨.slice none 0 0, ?_, ?_, ?_⟩
        · rw [HE1.out, G1.out]
          rfl
        · rw [HE2.out, G1.out, if_neg HE.out]
          exact World.ownsRow_nil _ _ _ _
        · go_grown
    · have hnil : l' = [] := List.eq_nil_of_length_eq_zero (by omega)
      subst hnil
      go_wp2
      go_ret2
      refine ⟨u6, ?_, ?_, hB⟩
      · rw [HE1.out]
        rfl
      · rw [HE2.out, if_pos gal_nil.2, gal_nil.1, List.append_nil]
        exact Hown.out

set_option maxHeartbeats 1000000 in
theorem getAll_any (A : Option Addr) (c : Nat) (l : List Int) (w : World) (h : Rd w A c l) (hb : l.length ≤ 400000) : Calls Try.prog 14 #[.slice A l.length c] w (AllPost w l) := by
  have HR := Lib.hid h
  clear h
  go_enter Try.func14, Try.ntmps14
  go_wp2_with fail
  refine (toEnd_any A c l _ HR.out hb).mono ?_
  rintro e w1 ⟨v1, rfl, ho1, hb1⟩
  have H1 := Lib.hid ho1
  clear ho1
  go_wp2
  go_ret2
  exact ⟨v1, rfl, H1.out, hb1⟩

/-- Routes that lie in memory, as a slice says. -/
def RdR (w : World) (A : Option Addr) (rs : List Rt) : Prop :=
  rs ≠ [] → ∃ g off, A = some ⟨g, off, none⟩ ∧ g < w.heap.size ∧ ∀ i, (h : i < rs.length) → w.cell? ⟨g, off + i * 5, none⟩ = some (.int .u64 (u rs[i].p.a.hi)) ∧ w.cell? ⟨g, off + i * 5 + 1, none⟩ = some (.int .u64 (u rs[i].p.a.lo)) ∧ w.cell? ⟨g, off + i * 5 + 2, none⟩ = some (.bool rs[i].p.a.v6) ∧ w.cell? ⟨g, off + i * 5 + 3, none⟩ = some (.int .i64 rs[i].p.n) ∧ w.cell? ⟨g, off + i * 5 + 4, none⟩ = some (.int .i64 rs[i].hop)
theorem RdR.keep {w w' : World} {A : Option Addr} {rs : List Rt} (h : RdR w A rs) (hb : Below w.heap.size w w') : RdR w' A rs := fun hn => by
  obtain ⟨g, off, e, hg, hc⟩ := h hn
  exact ⟨g, off, e, Nat.lt_of_lt_of_le hg hb.size, fun i hi => ⟨(hb.cell (p := ⟨g, off + i * 5, none⟩) hg).trans (hc i hi).1, (hb.cell (p := ⟨g, off + i * 5 + 1, none⟩) hg).trans (hc i hi).2.1, (hb.cell (p := ⟨g, off + i * 5 + 2, none⟩) hg).trans (hc i hi).2.2.1, (hb.cell (p := ⟨g, off + i * 5 + 3, none⟩) hg).trans (hc i hi).2.2.2.1, (hb.cell (p := ⟨g, off + i * 5 + 4, none⟩) hg).trans (hc i hi).2.2.2.2⟩⟩
theorem rtv_at (rs : List Rt) (i : Nat) (h : i < rs.length) (j : Nat) (hj : j < 5) : (rtv rs)[i * 5 + j]? = (rt5 rs[i])[j]? := by
  have e : rs = rs.take i ++ ([rs[i]] ++ rs.drop (i + 1)) := by simp
  conv => lhs; rw [e, rtv_append, rtv_append, rtv_one]
  have hl : (rtv (rs.take i)).length = i * 5 := by rw [rtv_len, List.length_take]; omega
  rw [List.getElem?_append_right (by omega), hl, show i * 5 + j - i * 5 = j by omega, List.getElem?_append_left (by simp [rt5]; omega)]
theorem own_rdr {w : World} {base : Nat} {v : Value} {n : Nat} {rs : List Rt} (h : w.ownsRow base 29 5 v n (rtv rs)) : n = rs.length ∧ ∃ A c, v = .slice A n c ∧ n ≤ c ∧ RdR w A rs := by
  have hl : n = rs.length := by have := h.1; rw [rtv_len] at this; omega
  refine ⟨hl, ?_⟩
  rcases h.2 with ⟨rfl, hn⟩ | ⟨g, cap, cur, rfl, _, hg, hnc, hm, hs, ht⟩
  · subst hn
    have e : rs = [] := List.eq_nil_of_length_eq_zero hl.symm
    subst e
    exact ⟨none, 0, rfl, Nat.le_refl _, fun h => absurd rfl h⟩
  · refine ⟨_, cap, rfl, hnc, fun hne => ⟨g, 0, rfl, (Array.getElem?_eq_some_iff.1 hg).1, fun i hi => ?_⟩⟩
    have key : ∀ j x, j < 5 → (rt5 rs[i])[j]? = some x → w.cell? ⟨g, i * 5 + j, none⟩ = some x := fun j x hj hx => by
      have := h.cells (g := g) rfl (i * 5 + j) x (by rw [rtv_at rs i hi j hj]; exact hx)
      rw [add_plain', Nat.zero_add] at this
      exact this
    rw [Nat.zero_add]
    exact ⟨key 0 _ (by omega) rfl, key 1 _ (by omega) rfl, key 2 _ (by omega) rfl, key 3 _ (by omega) rfl, key 4 _ (by omega) rfl⟩

end Go.Proofs.Ytibhabglmkgaaaa
