/-
  Bytes laid behind bytes (append); what prefixBytes, Good and routeBytes of package wire return. No condition.
-/
import Derived.Test.YtpigdjlanabacaaVe
import Derived.Test.YtpigdjlanabacaaWh
import Derived.Test.YtpigdjlanabacaaRefC
import Derived.Maps.AppendAt
import Derived.Deep.AppendLies
import Derived.Deep.AppendSrc
namespace Go.Proofs.Ytpigdjlanabacaa
open Go.RowKit

theorem own_keep {w w' : World} {base : Nat} {e : TypeId} {size n : Nat} {v : Value} {xs : List Value} (h : w.ownsRow base e size v n xs) (hb : Below w.heap.size w w') : w'.ownsRow base e size v n xs := by
  obtain ⟨h1, h2⟩ := h
  refine ⟨h1, h2.imp id ?_⟩
  rintro ⟨g, cap, cur, e1, e2, e3, e4⟩
  exact ⟨g, cap, cur, e1, e2, (hb.block g (Array.getElem?_eq_some_iff.1 e3).1).trans e3, e4⟩
theorem own_base {w : World} {base base' : Nat} {e : TypeId} {size n : Nat} {v : Value} {xs : List Value} (h : w.ownsRow base e size v n xs) (hb : base' ≤ base) : w.ownsRow base' e size v n xs := by
  obtain ⟨h1, h2⟩ := h
  refine ⟨h1, h2.imp id ?_⟩
  rintro ⟨g, cap, cur, e1, e2, e3⟩
  exact ⟨g, cap, cur, e1, Nat.le_trans hb e2, e3⟩
theorem own_fit {w : World} {base n : Nat} {v : Value} {l : List Int} (h : w.ownsRow base 5 1 v n (bv l)) : w.ownsRow base 5 1 v l.length (bv l) := by
  have hl := h.1
  rw [bv_len, Nat.mul_one] at hl
  rw [hl]
  exact h
/-- A row that was laid whole. -/
theorem own_lit {w : World} {base g : Nat} {e : TypeId} {size n : Nat} {xs : List Value} (hg : w.heap[g]? = some (.cells xs.toArray e (0, 0))) (hb : base ≤ g) (hn : n ≤ maxLen) (hl : xs.length = n * size) : w.ownsRow base e size (.slice (some ⟨g, 0, none⟩) n n) n xs :=
  ⟨hl, .inr ⟨g, n, xs.toArray, rfl, hb, hg, Nat.le_refl _, hn, by simpa using hl, by rw [← hl]; simp⟩⟩
theorem bytes_append (W : World) (base : Nat) (v : Value) (n : Nat) (xl : List Int) (ty : TypeId) (hown : W.ownsRow base 5 1 v n (bv xl)) (A : Option Addr) (c : Nat) (l : List Int) (hr : Rd W A c l) (hb : n + l.length ≤ 1000000) (hbase : base ≤ W.heap.size) :
    ∃ v' w', (Builtin.append_ #[55, 55] ty #[v, .slice A l.length c]).run Try.prog W = .ok v' w' ∧ w'.ownsRow base 5 1 v' (n + l.length) (bv (xl ++ l)) ∧ W.grownBy w' v.ownBlock := by
  obtain ⟨i0, hi0, hz0, hz1, hz2⟩ := info_parts info_u8
  by_cases h0 : l = []
  · subst h0
    rcases A with _ | ad
    · refine ⟨v, W, ?_, by simpa using hown, World.grownBy.refl W _⟩
      rcases hown.2 with ⟨rfl, rfl⟩ | ⟨g, cap, cur, rfl, _, _, hnc, _⟩
      · simp [Builtin.append_, run_underlying Try.underlying55, sizeOf, typeInfo, hi0, Builtin.lenOf, Builtin.firstCells]
      · simp [Builtin.append_, run_underlying Try.underlying55, sizeOf, typeInfo, hi0, Builtin.lenOf, Builtin.firstCells, hnc, storeCells]
    · obtain ⟨v', w', e1, e2, e3, _, _⟩ := run_append_own_at (P := Try.prog) W base 55 ty 5 i0 _ 1 1 Try.underlying55 hi0 hz0 hz1 hz2 rfl (by omega) v n _ hown ad 0 c [] rfl (by simp) (by simp) (by simp only [maxLen]; omega) (by omega) hbase
      exact ⟨v', w', e1, by simpa using e2, e3⟩
  · obtain ⟨g, off, rfl, hg, hc⟩ := hr.2.2.2 h0
    obtain ⟨v', w', e1, e2, e3, _, _⟩ := run_append_own_at (P := Try.prog) W base 55 ty 5 i0 _ 1 1 Try.underlying55 hi0 hz0 hz1 hz2 rfl (by omega) v n _ hown ⟨g, off, none⟩ l.length c (bv l) (by rw [bv_len]; omega) (hr.news rfl) (bv_one _) (by simp only [maxLen]; omega) (by omega) hbase
    exact ⟨v', w', e1, by rw [bv_append]; exact e2, e3⟩
section
variable {ops : Array Oper} {o : Oper} {a : Act} {w : World} {K : Act → World → Prop} {Q : Exit → Act → World → Prop}
theorem wp_bytes (s x : Operand) (ho : o.op = .call { callee := .builtin .append, args := #[s, x], argTypes := #[55, 55] }) (base : Nat) (v : Value) (n : Nat) (xl : List Int) (hs : a.eval s = v) (hown : w.ownsRow base 5 1 v n (bv xl)) (A : Option Addr) (m c : Nat) (l : List Int) (hx : a.eval x = .slice A m c) (hm : m = l.length)
    (hr : Rd w A c l) (hb : n + l.length ≤ 1000000) (hbase : base ≤ w.heap.size)
    (h : ∀ v' w', w'.ownsRow base 5 1 v' (n + l.length) (bv (xl ++ l)) → Below base w w' → K (a.put o.dst v') w') : o.wp Try.prog a w K Q := by
  subst hm
  obtain ⟨v', w', e1, e2, e3⟩ := bytes_append w base v n xl o.type hown A c l hr hb hbase
  unfold Oper.wp execOp
  simp only [ho, resolve, invoke, builtin, Sem.run_bind, Sem.run_pure, Result.andThen_ok, List.map_toArray, List.map_cons, List.map_nil, hs, hx, e1]
  exact h v' w' e2 ((Below.refl base w).grown e3 hbase (own_ge hown))
theorem wpList_bytes {rest : List Oper} (hgd : o.guard = none) (s x : Operand) (ho : o.op = .call { callee := .builtin .append, args := #[s, x], argTypes := #[55, 55] }) (base : Nat) (v : Value) (n : Nat) (xl : List Int) (hs : a.eval s = v) (hown : w.ownsRow base 5 1 v n (bv xl)) (A : Option Addr) (m c : Nat) (l : List Int) (hx : a.eval x = .slice A m c) (hm : m = l.length)
    (hr : Rd w A c l) (hb : n + l.length ≤ 1000000) (hbase : base ≤ w.heap.size)
    (h : ∀ v' w', w'.ownsRow base 5 1 v' (n + l.length) (bv (xl ++ l)) → Below base w w' → wpList Try.prog ops Q rest (a.put o.dst v') w') : wpList Try.prog ops Q (o :: rest) a w :=
  wpList_plain hgd fun _ hK => wp_bytes s x ho base v n xl hs hown A m c l hx hm hr hb hbase fun v' w' h2 h3 => hK _ _ (h v' w' h2 h3)
theorem step_bytes {E : Prop} (hgd : o.guard = none) (s x : Operand) (ho : o.op = .call { callee := .builtin .append, args := #[s, x], argTypes := #[55, 55] }) (base : Nat) (v : Value) (n : Nat) (xl : List Int) (hs : a.eval s = v) (hown : w.ownsRow base 5 1 v n (bv xl)) (A : Option Addr) (m c : Nat) (l : List Int) (hx : a.eval x = .slice A m c) (hm : m = l.length)
    (hr : Rd w A c l) (hb : n + l.length ≤ 1000000) (hbase : base ≤ w.heap.size)
    (h : ∀ v' w', w'.ownsRow base 5 1 v' (n + l.length) (bv (xl ++ l)) → Below base w w' → K (a.put o.dst v') w') :
    if Region.wanted o (yielded ops a.tmps) = true then Oper.wp Try.prog o a w K Q else E := by
  have hw : Region.wanted o (yielded ops a.tmps) = true := by simp [Region.wanted, hgd]
  rw [if_pos hw]
  exact wp_bytes s x ho base v n xl hs hown A m c l hx hm hr hb hbase h
end

theorem rgood_of (r : Rt) (b : Bool) (h : psane r.p = b) : rgood r = (b && decide (0 ≤ r.hop) && decide (r.hop ≤ 65535)) := by unfold rgood; rw [h]
set_option maxHeartbeats 1000000 in
theorem good_any (r : Rt) (w : World) : Calls Try.prog 31 #[.agg #[.int .u64 (u r.p.a.hi), .int .u64 (u r.p.a.lo), .bool r.p.a.v6, .int .i64 r.p.n, .int .i64 r.hop]] w fun e w' => e = .returned (.bool (rgood r)) ∧ Below w.heap.size w w' := by
  cases hs : psane r.p
  · have hr := Lib.hid (show rgood r = false by rw [rgood_of r _ hs]; rfl)
    have Hs := Lib.hid hs
    clear hs
    go_enter Try.func31, Try.ntmps31
    go_wp2_with fail
    refine (psane_any r.p _).mono ?_
    rintro e w1 ⟨rfl, hw1⟩
    have zw1 := hw1.size
    have bw1 := below_of (w := w) (by go_grown) hw1
    try simp at zw1
    rw [Hs.out]
    go_wp2
    go_ret
    exact ⟨ret_bool hr.out.symm, bw1⟩
  · by_cases h0 : 0 ≤ r.hop
    · have t0 : decide (0 ≤ r.hop) = true := by simp [h0]
      have hr := Lib.hid (show rgood r = decide (r.hop ≤ 65535) by rw [rgood_of r _ hs, t0]; rfl)
      have Hs := Lib.hid hs
      clear hs h0
      go_enter Try.func31, Try.ntmps31
      go_wp2_with fail
      refine (psane_any r.p _).mono ?_
      rintro e w1 ⟨rfl, hw1⟩
      have zw1 := hw1.size
      have bw1 := below_of (w := w) (by go_grown) hw1
      try simp at zw1
      rw [Hs.out]
      obtain ⟨pa, pb, pc, pg, pi, pd, pe, pf, ph, pj, pz⟩ := cells5 (b := w.heap.size) hw1 (by go_size) (by go_simp <;> rfl) (by go_simp <;> rfl) (by go_simp <;> rfl) (by go_simp <;> rfl) (by go_simp <;> rfl) (by go_simp <;> rfl) (by go_simp <;> rfl) (by go_simp <;> rfl) (by go_simp <;> rfl) (by go_simp <;> rfl)
      clear hw1
      go_wp2
      go_ret
      exact ⟨ret_bool hr.out.symm, bw1⟩
    · have t0 : decide (0 ≤ r.hop) = false := by simp [h0]
      have hr := Lib.hid (show rgood r = false by rw [rgood_of r _ hs, t0]; rfl)
      have Hs := Lib.hid hs
      clear hs h0
      go_enter Try.func31, Try.ntmps31
      go_wp2_with fail
      refine (psane_any r.p _).mono ?_
      rintro e w1 ⟨rfl, hw1⟩
      have zw1 := hw1.size
      have bw1 := below_of (w := w) (by go_grown) hw1
      try simp at zw1
      rw [Hs.out]
      obtain ⟨pa, pb, pc, pg, pi, pd, pe, pf, ph, pj, pz⟩ := cells5 (b := w.heap.size) hw1 (by go_size) (by go_simp <;> rfl) (by go_simp <;> rfl) (by go_simp <;> rfl) (by go_simp <;> rfl) (by go_simp <;> rfl) (by go_simp <;> rfl) (by go_simp <;> rfl) (by go_simp <;> rfl) (by go_simp <;> rfl) (by go_simp <;> rfl)
      clear hw1
      go_wp2
      go_ret
      exact ⟨ret_bool hr.out.symm, bw1⟩

theorem putP_len (p : Pf) (h : psane p = true) : (putP p).length = 2 + need p.n := by
  unfold putP
  rw [if_pos h]
  simp
  omega
set_option maxHeartbeats 1000000 in
theorem prefixBytes_no (p : Pf) (w : World) (h : psane p = false) :
    Calls Try.prog 33 #[.agg #[.int .u64 (u p.a.hi), .int .u64 (u p.a.lo), .bool p.a.v6, .int .i64 p.n]] w fun e w' => e = .returned (.slice none 0 0) ∧ Below w.heap.size w w' := by
  have H := Lib.hid h
  clear h
  go_enter Try.func33, Try.ntmps33
  go_wp2_with fail
  refine (psane_any p _).mono ?_
  rintro e w1 ⟨rfl, hw1⟩
  have zw1 := hw1.size
  have bw1 := below_of (w := w) (by go_grown) hw1
  try simp at zw1
  rw [H.out]
  go_wp2
  go_ret
  exact ⟨rfl, bw1⟩
/-- The last row of bytes. -/
def RowPost (w : World) (l : List Int) (e : Ending) (w' : World) : Prop := ∃ v, e = .returned v ∧ w'.ownsRow w.heap.size 5 1 v l.length (bv l) ∧ Below w.heap.size w w'
theorem rd_row {w : World} {g N k : Nat} {f : Nat → Int} (h : w.rowIs g 5 N (fun j => .int .u8 (f j))) (hk : k ≤ N) (hN : N ≤ 16) (hf : ∀ j, 0 ≤ f j ∧ f j < 256) : Rd w (some ⟨g, 0, none⟩) N ((List.range k).map f) := by
  refine ⟨by simpa using hk, by simp only [maxLen]; omega, ?_, fun _ => ⟨g, 0, rfl, h.lt, fun j hj => ?_⟩⟩
  · intro x hx
    obtain ⟨j, _, rfl⟩ := List.mem_map.1 hx
    exact hf j
  · rw [List.length_map, List.length_range] at hj
    rw [Nat.zero_add, h.cell (by omega)]
    unfold at0
    rw [List.getD_eq_getElem?_getD]
    simp [hj]
theorem yrow_then {G : Prop} {W X w5 : World} {o : Obj} (h : Below X.heap.size X w5) (hX : X.heap = (W.alloc o).heap) (k : w5.heap[W.heap.size]? = some o → G) : G :=
  k (by
    have hlt : W.heap.size < X.heap.size := by rw [hX]; simp
    rw [h.block _ hlt, hX]
    exact heap_alloc_new W o)
set_option maxHeartbeats 4000000 in
theorem prefixBytes_yes (p : Pf) (w : World) (h : psane p = true) : Calls Try.prog 33 #[.agg #[.int .u64 (u p.a.hi), .int .u64 (u p.a.lo), .bool p.a.v6, .int .i64 p.n]] w (RowPost w (putP p)) := by
  have n0 := ((psane_iff p).1 h).2.1
  have n1 := ((psane_iff p).1 h).2.2.1
  have hwd := wid_bd p.a.v6
  have hn := (need_le p.a.v6 p.n n0 n1).1
  have hnb := nb_le p.a.v6
  have hn' : ((need p.n : Nat) : Int) ≤ ((nb p.a.v6 : Nat) : Int) := by omega
  have hu : IntKind.u8.wrap p.n = p.n := by rw [IntKind.wrap_u8]; omega
  have HP := Lib.hid (show putP p = [kindOf p.a.v6, p.n] ++ (List.range (need p.n)).map (byteAt p.a) by unfold putP; rw [if_pos h]; rfl)
  have H := Lib.hid h
  clear h
  go_enter Try.func33, Try.ntmps33
  go_wp2_with fail
  refine (psane_any p _).mono ?_
  rintro e w1 ⟨rfl, hw1⟩
  have zw1 := hw1.size
  have bw1 := below_of (w := w) (by go_grown) hw1
  try simp at zw1
  rw [H.out]
  obtain ⟨pa, pb, pc, pg, pd, pe, pf, ph, pz⟩ := cells4 (b := w.heap.size) hw1 (by go_size) (by go_simp <;> rfl) (by go_simp <;> rfl) (by go_simp <;> rfl) (by go_simp <;> rfl) (by go_simp <;> rfl) (by go_simp <;> rfl) (by go_simp <;> rfl) (by go_simp <;> rfl)
  clear hw1
  go_wp2_with fail
  · rename_i hv kont hkont
    have ek : kindOf p.a.v6 = 6 := by unfold kindOf; rw [hv]; rfl
    have HQ := Lib.hid (HP.out.trans (by rw [ek] : _ = [6, p.n] ++ (List.range (need p.n)).map (byteAt p.a)))
    clear hv ek HP
    obtain ⟨W, rfl⟩ : ∃ W, W = w1 := ⟨_, rfl⟩
    go_region_held3 (fun w' => w'.cell? ⟨w.heap.size, 0, none⟩ = some (.int .u64 (u p.a.hi)) ∧ w'.cell? ⟨w.heap.size, 1, none⟩ = some (.int .u64 (u p.a.lo)) ∧ w'.cell? ⟨w.heap.size, 2, none⟩ = some (.bool p.a.v6) ∧ w'.cell? ⟨w.heap.size, 3, none⟩ = some (.int .i64 p.n) ∧ Below W.heap.size W w')
      (first | exact keep4 hk7 pz pa pb pc pg | exact keep4 hk5 pz pa pb pc pg | (refine keep4 ?_ pz pa pb pc pg; go_grown))
      (first
        | (go_at_call 38; refine (bytes_any p.a _).mono ?_; rintro e w5 ⟨g, rfl, hg, hrow, hw5⟩; have hk5 := below_of (w := W) (by go_grown) hw5; have zk5 := hk5.size; have Hrow := Lib.hid hrow; clear hrow; (try (refine yrow_then (W := W) hw5 rfl (fun hy => ?_))))
        | (go_at_call 39; refine (need_any p.n n0 (by omega) _).mono ?_; rintro e w6 ⟨rfl, rfl⟩)
        | (refine step_bytes (o := ⟨some 22, _, _, _, _, _⟩) (by rfl) (.tmp 14) (.tmp 21) (by rfl) W.heap.size _ 2 [6, p.n] (by rfl) (by first | exact own_lit (xs := bv [6, p.n]) hy (Nat.le_refl _) (by simp only [maxLen]; omega) rfl | exact own_lit (xs := bv [6, p.n]) (heap_alloc_new w5 _) zk5 (by simp only [maxLen]; omega) rfl) _ _ _ ((List.range (need p.n)).map (byteAt p.a)) (by rfl) (by simp) (by first | exact rd_row Hrow.out hn (by omega) (byteAt_bd p.a) | exact rd_row (Hrow.out.alloc _) hn (by omega) (byteAt_bd p.a)) (by simp; omega) (by first | exact zk5 | (simp; omega)) ?_; intro v6 w7 hown7 hg7; have H7 := Lib.hid hown7; clear hown7; have hk7 : Below W.heap.size W w7 := Below.trans (by go_grown) hg7))
    all_goals
      go_wp2
      go_ret
      rw [HQ.out]
      exact ⟨_, rfl, own_base (own_fit H7.out) bw1.size, bw1.trans (hk7.mono bw1.size)⟩
  · rename_i hv kont hkont
    have ek : kindOf p.a.v6 = 4 := by unfold kindOf; rw [hv]; rfl
    have HQ := Lib.hid (HP.out.trans (by rw [ek] : _ = [4, p.n] ++ (List.range (need p.n)).map (byteAt p.a)))
    clear hv ek HP
    obtain ⟨W, rfl⟩ : ∃ W, W = w1 := ⟨_, rfl⟩
    go_region_held3 (fun w' => w'.cell? ⟨w.heap.size, 0, none⟩ = some (.int .u64 (u p.a.hi)) ∧ w'.cell? ⟨w.heap.size, 1, none⟩ = some (.int .u64 (u p.a.lo)) ∧ w'.cell? ⟨w.heap.size, 2, none⟩ = some (.bool p.a.v6) ∧ w'.cell? ⟨w.heap.size, 3, none⟩ = some (.int .i64 p.n) ∧ Below W.heap.size W w')
      (first | exact keep4 hk7 pz pa pb pc pg | exact keep4 hk5 pz pa pb pc pg | (refine keep4 ?_ pz pa pb pc pg; go_grown))
      (first
        | (go_at_call 38; refine (bytes_any p.a _).mono ?_; rintro e w5 ⟨g, rfl, hg, hrow, hw5⟩; have hk5 := below_of (w := W) (by go_grown) hw5; have zk5 := hk5.size; have Hrow := Lib.hid hrow; clear hrow; (try (refine yrow_then (W := W) hw5 rfl (fun hy => ?_))))
        | (go_at_call 39; refine (need_any p.n n0 (by omega) _).mono ?_; rintro e w6 ⟨rfl, rfl⟩)
        | (refine step_bytes (o := ⟨some 22, _, _, _, _, _⟩) (by rfl) (.tmp 14) (.tmp 21) (by rfl) W.heap.size _ 2 [4, p.n] (by rfl) (by first | exact own_lit (xs := bv [4, p.n]) hy (Nat.le_refl _) (by simp only [maxLen]; omega) rfl | exact own_lit (xs := bv [4, p.n]) (heap_alloc_new w5 _) zk5 (by simp only [maxLen]; omega) rfl) _ _ _ ((List.range (need p.n)).map (byteAt p.a)) (by rfl) (by simp) (by first | exact rd_row Hrow.out hn (by omega) (byteAt_bd p.a) | exact rd_row (Hrow.out.alloc _) hn (by omega) (byteAt_bd p.a)) (by simp; omega) (by first | exact zk5 | (simp; omega)) ?_; intro v6 w7 hown7 hg7; have H7 := Lib.hid hown7; clear hown7; have hk7 : Below W.heap.size W w7 := Below.trans (by go_grown) hg7))
    all_goals
      go_wp2
      go_ret
      rw [HQ.out]
      exact ⟨_, rfl, own_base (own_fit H7.out) bw1.size, bw1.trans (hk7.mono bw1.size)⟩

theorem prefixBytes_any (p : Pf) (w : World) : Calls Try.prog 33 #[.agg #[.int .u64 (u p.a.hi), .int .u64 (u p.a.lo), .bool p.a.v6, .int .i64 p.n]] w (RowPost w (putP p)) := by
  cases h : psane p
  · refine (prefixBytes_no p w h).mono ?_
    rintro e w' ⟨rfl, hb⟩
    have e0 : putP p = [] := by unfold putP; rw [h]; rfl
    rw [e0]
    exact ⟨_, rfl, World.ownsRow_nil _ _ _ _, hb⟩
  · exact prefixBytes_yes p w h
theorem bd_putP (p : Pf) : ∀ x ∈ putP p, 0 ≤ x ∧ x < 256 := by
  intro x hx
  unfold putP at hx
  split at hx
  · rename_i h
    obtain ⟨_, n0, n1, _⟩ := (psane_iff p).1 h
    have hwd := wid_bd p.a.v6
    rcases List.mem_cons.1 hx with rfl | hx
    · unfold kindOf; split <;> omega
    · rcases List.mem_cons.1 hx with rfl | hx
      · omega
      · obtain ⟨j, _, rfl⟩ := List.mem_map.1 hx
        exact byteAt_bd _ _
  · cases hx
theorem rgood_iff (r : Rt) : rgood r = true ↔ psane r.p = true ∧ 0 ≤ r.hop ∧ r.hop ≤ 65535 := by
  unfold rgood
  simp [and_assoc]
theorem putP_le (p : Pf) : (putP p).length ≤ 18 := by
  cases h : psane p
  · have e0 : putP p = [] := by unfold putP; rw [h]; rfl
    rw [e0]
    simp
  · rw [putP_len p h]
    obtain ⟨_, n0, n1, _⟩ := (psane_iff p).1 h
    have hn := need_le _ _ n0 n1
    have hnb := nb_le p.a.v6
    omega
theorem keep5 {W w' : World} {b : Nat} {c0 c1 c2 c3 c4 : Value} (h : Below W.heap.size W w') (hlt : b < W.heap.size) (h0 : W.cell? ⟨b, 0, none⟩ = some c0) (h1 : W.cell? ⟨b, 1, none⟩ = some c1) (h2 : W.cell? ⟨b, 2, none⟩ = some c2) (h3 : W.cell? ⟨b, 3, none⟩ = some c3) (h4 : W.cell? ⟨b, 4, none⟩ = some c4) :
    w'.cell? ⟨b, 0, none⟩ = some c0 ∧ w'.cell? ⟨b, 1, none⟩ = some c1 ∧ w'.cell? ⟨b, 2, none⟩ = some c2 ∧ w'.cell? ⟨b, 3, none⟩ = some c3 ∧ w'.cell? ⟨b, 4, none⟩ = some c4 ∧ Below W.heap.size W w' := ⟨(h.cell hlt).trans h0, (h.cell hlt).trans h1, (h.cell hlt).trans h2, (h.cell hlt).trans h3, (h.cell hlt).trans h4, h⟩
/-- Two bytes in a block. -/
theorem rd_two {w : World} {g : Nat} {x y : Int} (hg : w.heap[g]? = some (.cells #[.int .u8 x, .int .u8 y] 5 (0, 0))) (x0 : 0 ≤ x ∧ x < 256) (y0 : 0 ≤ y ∧ y < 256) : Rd w (some ⟨g, 0, none⟩) 2 [x, y] := by
  refine ⟨by simp, by simp only [maxLen]; omega, ?_, fun _ => ⟨g, 0, rfl, (Array.getElem?_eq_some_iff.1 hg).1, fun j hj => ?_⟩⟩
  · intro z hz
    simp at hz
    rcases hz with rfl | rfl
    · exact x0
    · exact y0
  · rw [Nat.zero_add, cell_of_row w g j _ _ _ hg]
    simp at hj
    rcases (show j = 0 ∨ j = 1 by omega) with rfl | rfl <;> rfl
theorem bd_putR (r : Rt) : ∀ x ∈ putR r, 0 ≤ x ∧ x < 256 := by
  intro x hx
  unfold putR at hx
  split at hx
  · rename_i h
    obtain ⟨_, n0, n1⟩ := (rgood_iff r).1 h
    rcases List.mem_append.1 hx with hx | hx
    · exact bd_putP _ x hx
    · simp at hx
      omega
  · cases hx
theorem putR_le (r : Rt) : (putR r).length ≤ 20 := by
  have := putP_le r.p
  unfold putR
  split
  · simp
    omega
  · simp

end Go.Proofs.Ytpigdjlanabacaa
