/-
  TextIs: for every input the call returns true, and each argument reads afterwards as it read before. Condition: the library's tables start as the program's text lays them (the card ties them).
-/
import Derived.Test.YtfebhfghjdedhaaDoorX2
import Derived.Test.YtfebhfghjdedhaaDoorLate
import Derived.Test.YtfebhfghjdedhaaDoorPbx
import Derived.Test.YtfebhfghjdedhaaDoorX1
import Derived.ChangeMaps5
namespace Go.Proofs.YtfebhfghjdedhaaDoor
open Go.RowKit
set_option maxRecDepth 100000

set_option maxHeartbeats 4000000 in
theorem textIs_law (a : Ad) (p : Pf) (h0 : -9223372036854775808 ≤ p.n) (h1 : p.n ≤ 9223372036854775807) (s : ByteArray) (w : World) (he : Env w) :
    Calls Tryd.prog 3 #[.agg #[.int .u64 (u a.hi), .int .u64 (u a.lo), .bool a.v6], .agg #[.int .u64 (u p.a.hi), .int .u64 (u p.a.lo), .bool p.a.v6, .int .i64 p.n], .string s] w fun e w' => e = .returned (.bool true) ∧ Below w.heap.size w w' := by
  by_cases hl : 200 < s.size
  · have hl' : 200 < (s.size : Int) := by omega
    go_enter Tryd.func3, Tryd.ntmps3
    go_wp2_with fail
    refine (awake3_any _ (he.go (by go_grown))).mono ?_
    rintro e w1 ⟨rfl, hw1⟩
    have zw1 := hw1.size
    have bw1 := below_of (w := w) (by go_grown) hw1
    try simp at zw1
    clear hw1
    go_wp2
    go_ret
    exact ⟨rfl, bw1⟩
  have hl' : ¬ 200 < (s.size : Int) := by omega
  have c1 := fun w he => parseAddr_any s w he (by omega)
  have c2 := fun w => refParseAddr_any s (by omega) w
  have c3 := fun w he => parse_any s w he (by omega)
  have c4 := fun w => refParse_any s (by omega) w
  generalize (parseA s.data.toList).getD ad0 = x at c1 c2
  generalize erA (parseA s.data.toList) = ex at c1 c2
  generalize (parseP s.data.toList).1 = q at c3 c4
  generalize (parseP s.data.toList).2 = eq at c3 c4
  have C1 := fun w he => Lib.hid (c1 w he)
  have C2 := fun w => Lib.hid (c2 w)
  have C3 := fun w he => Lib.hid (c3 w he)
  have C4 := fun w => Lib.hid (c4 w)
  have CP := Lib.hid (fun V (h : Below w.heap.size w V) => printAddr_any a V (he.go h))
  have CQ := Lib.hid (fun V (h : Below w.heap.size w V) => refPrintAddr_any a V (he.go h))
  have CR := Lib.hid (fun V (h : Below w.heap.size w V) => print_any p h0 h1 V (he.go h))
  have CS := Lib.hid (fun V (h : Below w.heap.size w V) => refPrint_any p h0 h1 V (he.go h))
  clear c1 c2 c3 c4 h0 h1
  generalize (⟨(printA a).toArray⟩ : ByteArray) = sa at CP CQ
  generalize (⟨(printP p).toArray⟩ : ByteArray) = sp at CR CS
  go_enter Tryd.func3, Tryd.ntmps3
  go_wp2_with fail
  refine (awake3_any _ (he.go (by go_grown))).mono ?_
  rintro e w1 ⟨rfl, hw1⟩
  have zw1 := hw1.size
  have bw1 := below_of (w := w) (by go_grown) hw1
  try simp at zw1
  obtain ⟨a2a, a2b, a2c, a2d, a2e, a2f, a2z⟩ := cells3 (b := w.heap.size) hw1 (by go_size) (by go_simp <;> rfl) (by go_simp <;> rfl) (by go_simp <;> rfl) (by go_simp <;> rfl) (by go_simp <;> rfl) (by go_simp <;> rfl)
  obtain ⟨p2a, p2b, p2c, p2g, p2d, p2e, p2f, p2h, p2z⟩ := cells4 (b := w.heap.size + 1) hw1 (by go_size) (by go_simp <;> rfl) (by go_simp <;> rfl) (by go_simp <;> rfl) (by go_simp <;> rfl) (by go_simp <;> rfl) (by go_simp <;> rfl) (by go_simp <;> rfl) (by go_simp <;> rfl)
  clear hw1
  go_wp2_with fail
  refine ((C1 _ (he.go (by go_grown))).out).mono ?_
  rintro e w2 ⟨rfl, hw2⟩
  have zw2 := hw2.size
  have bw2 := below_of (w := w) (by go_grown) hw2
  try simp at zw2
  have hw1b := below_of (w := w1) (by go_grown) hw2
  obtain ⟨a3a, a3b, a3c, a3d, a3e, a3f, a3z⟩ := cells3 hw1b a2z a2a a2b a2c a2d a2e a2f
  obtain ⟨p3a, p3b, p3c, p3g, p3d, p3e, p3f, p3h, p3z⟩ := cells4 hw1b p2z p2a p2b p2c p2g p2d p2e p2f p2h
  clear a2a a2b a2c a2d a2e a2f a2z p2a p2b p2c p2g p2d p2e p2f p2h p2z hw2 hw1b
  go_wp2_with fail
  refine ((C2 _).out).mono ?_
  rintro e w3 ⟨rfl, hw3⟩
  have zw3 := hw3.size
  have bw3 := below_of (w := w) (by go_grown) hw3
  try simp at zw3
  have hw2b := below_of (w := w2) (by go_grown) hw3
  obtain ⟨a4a, a4b, a4c, a4d, a4e, a4f, a4z⟩ := cells3 hw2b a3z a3a a3b a3c a3d a3e a3f
  obtain ⟨p4a, p4b, p4c, p4g, p4d, p4e, p4f, p4h, p4z⟩ := cells4 hw2b p3z p3a p3b p3c p3g p3d p3e p3f p3h
  obtain ⟨x4a, x4b, x4c, x4d, x4e, x4f, x4z⟩ := cells3 (b := w2.heap.size) hw3 (by go_size) (by go_simp <;> rfl) (by go_simp <;> rfl) (by go_simp <;> rfl) (by go_simp <;> rfl) (by go_simp <;> rfl) (by go_simp <;> rfl)
  clear a3a a3b a3c a3d a3e a3f a3z p3a p3b p3c p3g p3d p3e p3f p3h p3z hw3 hw2b
  go_wp2_with fail
  refine ((C3 _ (he.go (by go_grown))).out).mono ?_
  rintro e w4 ⟨rfl, hw4⟩
  have zw4 := hw4.size
  have bw4 := below_of (w := w) (by go_grown) hw4
  try simp at zw4
  have hw3b := below_of (w := w3) (by go_grown) hw4
  obtain ⟨a5a, a5b, a5c, a5d, a5e, a5f, a5z⟩ := cells3 hw3b a4z a4a a4b a4c a4d a4e a4f
  obtain ⟨p5a, p5b, p5c, p5g, p5d, p5e, p5f, p5h, p5z⟩ := cells4 hw3b p4z p4a p4b p4c p4g p4d p4e p4f p4h
  obtain ⟨x5a, x5b, x5c, x5d, x5e, x5f, x5z⟩ := cells3 hw3b x4z x4a x4b x4c x4d x4e x4f
  obtain ⟨y5a, y5b, y5c, y5d, y5e, y5f, y5z⟩ := cells3 (b := w3.heap.size) hw4 (by go_size) (by go_simp <;> rfl) (by go_simp <;> rfl) (by go_simp <;> rfl) (by go_simp <;> rfl) (by go_simp <;> rfl) (by go_simp <;> rfl)
  clear a4a a4b a4c a4d a4e a4f a4z p4a p4b p4c p4g p4d p4e p4f p4h p4z x4a x4b x4c x4d x4e x4f x4z hw4 hw3b
  go_wp2_with fail
  refine ((C4 _).out).mono ?_
  rintro e w5 ⟨rfl, hw5⟩
  have zw5 := hw5.size
  have bw5 := below_of (w := w) (by go_grown) hw5
  try simp at zw5
  have hw4b := below_of (w := w4) (by go_grown) hw5
  obtain ⟨a6a, a6b, a6c, a6d, a6e, a6f, a6z⟩ := cells3 hw4b a5z a5a a5b a5c a5d a5e a5f
  obtain ⟨p6a, p6b, p6c, p6g, p6d, p6e, p6f, p6h, p6z⟩ := cells4 hw4b p5z p5a p5b p5c p5g p5d p5e p5f p5h
  obtain ⟨x6a, x6b, x6c, x6d, x6e, x6f, x6z⟩ := cells3 hw4b x5z x5a x5b x5c x5d x5e x5f
  obtain ⟨y6a, y6b, y6c, y6d, y6e, y6f, y6z⟩ := cells3 hw4b y5z y5a y5b y5c y5d y5e y5f
  obtain ⟨q6a, q6b, q6c, q6g, q6d, q6e, q6f, q6h, q6z⟩ := cells4 (b := w4.heap.size) hw5 (by go_size) (by go_simp <;> rfl) (by go_simp <;> rfl) (by go_simp <;> rfl) (by go_simp <;> rfl) (by go_simp <;> rfl) (by go_simp <;> rfl) (by go_simp <;> rfl) (by go_simp <;> rfl)
  clear a5a a5b a5c a5d a5e a5f a5z p5a p5b p5c p5g p5d p5e p5f p5h p5z x5a x5b x5c x5d x5e x5f x5z y5a y5b y5c y5d y5e y5f y5z hw5 hw4b
  go_wp2_with fail
  generalize hW : World.alloc _ _ = W
  have hz : w.heap.size ≤ W.heap.size := by subst hW; go_size
  have hB : Below w.heap.size w W := by subst hW; go_grown
  have hw5b : Below w5.heap.size w5 W := by subst hW; go_grown
  obtain ⟨a7a, a7b, a7c, a7d, a7e, a7f, a7z⟩ := cells3 hw5b a6z a6a a6b a6c a6d a6e a6f
  obtain ⟨p7a, p7b, p7c, p7g, p7d, p7e, p7f, p7h, p7z⟩ := cells4 hw5b p6z p6a p6b p6c p6g p6d p6e p6f p6h
  obtain ⟨x7a, x7b, x7c, x7d, x7e, x7f, x7z⟩ := cells3 hw5b x6z x6a x6b x6c x6d x6e x6f
  obtain ⟨y7a, y7b, y7c, y7d, y7e, y7f, y7z⟩ := cells3 hw5b y6z y6a y6b y6c y6d y6e y6f
  obtain ⟨q7a, q7b, q7c, q7g, q7d, q7e, q7f, q7h, q7z⟩ := cells4 hw5b q6z q6a q6b q6c q6g q6d q6e q6f q6h
  obtain ⟨r7a, r7b, r7c, r7g, r7d, r7e, r7f, r7h, r7z⟩ := cells4 (W := W) (b := w5.heap.size) (Below.refl _ W) (by subst hW; go_size) (by subst hW; go_simp <;> rfl) (by subst hW; go_simp <;> rfl) (by subst hW; go_simp <;> rfl) (by subst hW; go_simp <;> rfl) (by subst hW; go_simp <;> rfl) (by subst hW; go_simp <;> rfl) (by subst hW; go_simp <;> rfl) (by subst hW; go_simp <;> rfl)
  clear a6a a6b a6c a6d a6e a6f a6z p6a p6b p6c p6g p6d p6e p6f p6h p6z x6a x6b x6c x6d x6e x6f x6z y6a y6b y6c y6d y6e y6f y6z q6a q6b q6c q6g q6d q6e q6f q6h q6z hW hw5b
  have La7a := fun x : Later W.heap.size W => (x.cell a7z).trans a7a
  have La7b := fun x : Later W.heap.size W => (x.cell a7z).trans a7b
  have La7c := fun x : Later W.heap.size W => (x.cell a7z).trans a7c
  have Lp7a := fun x : Later W.heap.size W => (x.cell p7z).trans p7a
  have Lp7b := fun x : Later W.heap.size W => (x.cell p7z).trans p7b
  have Lp7c := fun x : Later W.heap.size W => (x.cell p7z).trans p7c
  have Lp7g := fun x : Later W.heap.size W => (x.cell p7z).trans p7g
  have Lx7a := fun x : Later W.heap.size W => (x.cell x7z).trans x7a
  have Lx7b := fun x : Later W.heap.size W => (x.cell x7z).trans x7b
  have Lx7c := fun x : Later W.heap.size W => (x.cell x7z).trans x7c
  have Ly7a := fun x : Later W.heap.size W => (x.cell y7z).trans y7a
  have Ly7b := fun x : Later W.heap.size W => (x.cell y7z).trans y7b
  have Ly7c := fun x : Later W.heap.size W => (x.cell y7z).trans y7c
  have Lq7a := fun x : Later W.heap.size W => (x.cell q7z).trans q7a
  have Lq7b := fun x : Later W.heap.size W => (x.cell q7z).trans q7b
  have Lq7c := fun x : Later W.heap.size W => (x.cell q7z).trans q7c
  have Lq7g := fun x : Later W.heap.size W => (x.cell q7z).trans q7g
  have Lr7a := fun x : Later W.heap.size W => (x.cell r7z).trans r7a
  have Lr7b := fun x : Later W.heap.size W => (x.cell r7z).trans r7b
  have Lr7c := fun x : Later W.heap.size W => (x.cell r7z).trans r7c
  have Lr7g := fun x : Later W.heap.size W => (x.cell r7z).trans r7g
  try simp only [List.append_eq, List.cons_append, List.nil_append]
  refine region_later W.heap.size (by kernel_rfl) (by kernel_rfl) ?_
  repeat (go_big_quiet_step (first | (go_at_call 9; with_reducible exact later_of (Nat.le_refl _) (CP.out _ (hB.trans ((Later.below _).mono hz)))) | (go_at_call 10; with_reducible exact later_of (Nat.le_refl _) (CQ.out _ (hB.trans ((Later.below _).mono hz)))) | (go_at_call 11; with_reducible exact later_of (Nat.le_refl _) (CR.out _ (hB.trans ((Later.below _).mono hz)))) | (go_at_call 12; with_reducible exact later_of (Nat.le_refl _) (CS.out _ (hB.trans ((Later.below _).mono hz))))))
  refine wpQuiet_nil ?_
  intro x
  have hx : Below w.heap.size w x.at := hB.trans (x.below.mono hz)
  go_wp2
  go_ret
  exact ⟨rfl, hx⟩

end Go.Proofs.YtfebhfghjdedhaaDoor

namespace Go.Proofs.YtfebhfghjdedhaaDoor
open Go.ChangeShapes Go.WideShapes Go.ChangeAt Go.RowKit
set_option maxRecDepth 100000

theorem textIs_walks (H : Type) (enc : TypeId × Value → H) (W : World) (base : Nat) (args : Array Value) (ds gs : List (DataW H)) (before : List MemPlace)
    (hval : ∀ (j : Nat) t v, Tryd.f3.params[j]? = some t → args[j]? = some v → Value.okWide Tryd.prog W .any base t v)
    (hW : DataW.Whole enc Tryd.prog Tryd.f3.params.toList Rows.textIsSpec.vars false W args.toList ds gs before) (henv : Env W) :
    Calls Tryd.prog 3 args W fun e W' => ∃ v, e = .returned v ∧ Rows.textIsSpec.post enc Tryd.prog Tryd.f3 false true false false W args v W' := by
  have hW' := hW
  obtain ⟨p, q, hA0, hV, rfl, hfz, hnd⟩ := hW
  have hA : DataW.TrodAll enc Tryd.prog W 0 (fun _ => true) true Tryd.f3.params.toList args.toList ds p := hA0
  rw [Tryd.params3] at hA hval
  obtain ⟨v0, vs0, d0, ds0, p0, q0, hargs, rfl, rfl, h0, r0⟩ := trodAll_cons hA
  obtain ⟨v1, vs1, d1, ds1, p1, q1, rfl, rfl, rfl, h1, r1⟩ := trodAll_cons r0
  obtain ⟨v2, vs2, d2, ds2, p2, q2, rfl, rfl, rfl, h2, r2⟩ := trodAll_cons r1
  obtain ⟨rfl, rfl, rfl⟩ := trodAll_nil r2
  obtain rfl : args = #[v0, v1, v2] := by cases args; simp_all
  obtain ⟨rfl, rfl⟩ := trodVars_none hV
  have lt0 : ∀ x ∈ p0, x.block < W.heap.size := by obtain ⟨m, hm⟩ := h0; exact DataW.trod_lt m _ _ _ hm
  obtain ⟨a0, rfl⟩ := open_ad (hval 0 24 v0 rfl rfl) h0
  have lt1 : ∀ x ∈ p1, x.block < W.heap.size := by obtain ⟨m, hm⟩ := h1; exact DataW.trod_lt m _ _ _ hm
  obtain ⟨a1, rfl, w1⟩ := open_pf (hval 1 26 v1 rfl rfl) h1
  obtain ⟨x1, y1⟩ := bounds_i64 w1
  have lt2 : ∀ x ∈ p2, x.block < W.heap.size := by obtain ⟨m, hm⟩ := h2; exact DataW.trod_lt m _ _ _ hm
  have k2 := h2
  obtain ⟨a2, rfl, e2, f2, w2⟩ := ChangeMaps.open_string Tryd.underlying9 (hval 2 9 v2 rfl rfl) h2
  refine (textIs_law a0 a1 x1 y1 a2 W henv).mono fun e W' ⟨he, bel⟩ => ?_
  subst he
  exact ⟨_, rfl, _, _, _, [], _, [], hW', trodAll_mk1 (shut_bool Tryd.underlying4 _), (trodAll_cons_mk (Below.trod laidOut (by kernel_rfl) (of_decide_eq_true (by kernel_rfl)) h0 bel lt0) (trodAll_cons_mk (Below.trod laidOut (by kernel_rfl) (of_decide_eq_true (by kernel_rfl)) h1 bel lt1) (trodAll_cons_mk (Below.trod laidOut (by kernel_rfl) (of_decide_eq_true (by kernel_rfl)) k2 bel lt2) trodAll_mk0))), rfl, bel.frame _, fun h => by cases h⟩

theorem textIs_reads (os : Os) {H : Type} (enc : TypeId × Value → H) : ∃ places, DataW.whole enc Tryd.prog ((World.laidAll Tryd.prog os Rows.textIsRow.laid).forCall (fun _ _ => 0) ⟨#[], #[.agg #[.int .u64 0, .int .u64 0, .bool false], .agg #[.int .u64 0, .int .u64 0, .bool false, .int .i64 0], .string ⟨#[]⟩], []⟩).memory Tryd.f3.params.toList Rows.textIsSpec.vars false (#[.agg #[.int .u64 0, .int .u64 0, .bool false], .agg #[.int .u64 0, .int .u64 0, .bool false, .int .i64 0], .string ⟨#[]⟩] : Array Value).toList 8 = some ([.agg [.lit (.int .u64 0), .lit (.int .u64 0), .lit (.bool false)], .agg [.agg [.lit (.int .u64 0), .lit (.int .u64 0), .lit (.bool false)], .lit (.int .i64 0)], .lit (.string [])], [], places) :=
  ⟨[], by kernel_rfl⟩

theorem textIs_lifted (os : Os) (started : os.Started) (H : Type) (enc : TypeId × Value → H) (F : Stop.Interp) :
    ReturnsInHanded {} Tryd.checked os 3 .any ((OpenSpec.ofChange Rows.textIsSpec).preRow enc Tryd.prog Tryd.f3 Rows.textIsRow.domain false Rows.textIsRow.laid) (((OpenSpec.ofChange Rows.textIsSpec).at F).post enc Tryd.prog Tryd.f3 false true false false) := by
  obtain ⟨places, hx⟩ := textIs_reads os enc
  refine returnsInHanded_of_row (C := Tryd.checked) (s := OpenSpec.ofChange Rows.textIsSpec) own started (by kernel_rfl) Tryd.func3
    (witness_row_at (enc := enc) (C := Tryd.checked) false (World.laidAll Tryd.prog os Rows.textIsRow.laid) #[.agg #[.int .u64 0, .int .u64 0, .bool false], .agg #[.int .u64 0, .int .u64 0, .bool false, .int .i64 0], .string ⟨#[]⟩] (World.laidAll_os _ _ _) (by kernel_rfl) (by kernel_rfl) (by kernel_rfl)
      (OpenSpec.preRow_of_cond 8 hx (by kernel_rfl) (fun k hk => by cases hk) (by kernel_rfl) (by rw [MakeChecks.laidMetH_plain _ _ _ (by kernel_rfl)]; exact laidMet_laidAll _ (by kernel_rfl) (by kernel_rfl)))) ?_
  intro W base args ds gs before hval hW _ _ _ hL hsh _
  exact textIs_walks H enc W base args ds gs before hval hW (env_of hL hsh)

theorem textIs_said : Rows.TextIsSaid :=
  OpenClaim.holds_of_cond 3 Tryd.f3 rfl rfl rfl rfl rfl rfl rfl ⟨rfl, rfl, rfl, rfl, rfl⟩ rfl rfl rfl rfl rfl (by kernel_rfl) Tryd.func3 (by kernel_rfl)
    (of_decide_eq_true (by kernel_rfl)) (by unfold Func.isWrapper; first | (rw [if_pos (by decide +kernel)]; kernel_rfl) | (rw [if_neg (by decide +kernel)]; exact ⟨rfl, rfl⟩))
    (fun os started H enc _ F => by rw [OpenClaim.pre_eq_preRow]; exact textIs_lifted os started H enc F)

theorem textIs_plain (f : FuncId) (fn : Func) (hf : Tryd.pinned.checked.prog.funcNamed "kedge/kedgelaw03.TextIs" = some f) (hfn : Tryd.pinned.checked.prog.funcs[f]? = some fn) :
    false = Tryd.pinned.checked.prog.looks [] ∧ ∀ (j : Nat) t, fn.params[j]? = some t → Tryd.pinned.checked.prog.wantsStandIn t = false := by
  obtain rfl : f = 3 := Option.some.inj ((show Tryd.prog.funcNamed "kedge/kedgelaw03.TextIs" = some 3 by kernel_rfl).symm.trans hf) |>.symm
  obtain rfl : fn = Tryd.f3 := (Option.some.inj (Tryd.func3.symm.trans hfn)).symm
  refine ⟨by kernel_rfl, fun j t ht => ?_⟩
  rw [Tryd.params3] at ht
  have hm : t ∈ [24, 26, 9] := by simpa using Array.mem_of_getElem? ht
  have hall : ([24, 26, 9].all fun u => !Tryd.prog.wantsStandIn u) = true := by kernel_rfl
  exact (show Tryd.prog.wantsStandIn t = false by simpa using List.all_eq_true.1 hall t hm)

theorem textIs_card : Rows.TextIsCardSaid :=
  Claim7.holds_tied_plain_at .later [] _ _ _ _ textIs_said (fun _ h => by cases h) (by kernel_rfl) (fun _ h => by cases h) textIs_row_tie rfl ⟨rfl, rfl⟩ (by kernel_rfl) rfl textIs_plain (by kernel_rfl)

end Go.Proofs.YtfebhfghjdedhaaDoor
