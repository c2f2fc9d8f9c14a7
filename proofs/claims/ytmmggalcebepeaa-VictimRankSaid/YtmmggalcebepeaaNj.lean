/-
  The end of symMerge of Go's package slices: a rotation, and two merges. Condition: the row is the caller's own, and all on the left belong ahead of all on the right. (Written by nj.py.)
-/
import Derived.Test.YtmmggalcebepeaaNh
import Derived.Deep.DeepCutAuto
namespace Go.Proofs.Ytmmggalcebepeaa
open Go.RowKit
set_option maxRecDepth 1000000

def leadC : Code → Option Nat
  | .region i _ _ => some i
  | .seq a _ => leadC a
  | .block _ a => leadC a
  | .scope a => leadC a
  | .loop a => leadC a
  | _ => none
def wholeC (r : Nat) : Code → Option Code
  | .seq a b => if leadC a == some r then some (.seq a b) else match wholeC r a with
    | some x => some x
    | none => wholeC r b
  | .block i a => if leadC a == some r then some (.block i a) else wholeC r a
  | .scope a => if leadC a == some r then some (.scope a) else wholeC r a
  | .loop a => if leadC a == some r then some (.loop a) else wholeC r a
  | .cond _ a b => match wholeC r a with
    | some x => some x
    | none => wholeC r b
  | _ => none
def fstC : Code → Code
  | .seq a _ => a
  | x => x
def sndC : Code → Code
  | .seq _ b => b
  | x => x
noncomputable def smTail : Code := (((Try.f25).body.bind (wholeC 39)).getD .skip)
noncomputable def sm1 : Code := fstC smTail
noncomputable def sm2 : Code := fstC (sndC smTail)
noncomputable def sm3 : Code := sndC (sndC smTail)
/-- What the merge of a part does. -/
def MergeDoes (B : Nat) (A : Option Addr) (n c : Nat) (f : Nat → Ent) (g : FuncId) (T : Nat → Nat → Prop) (N : Nat) : Prop :=
  ∀ (w : World) (D : Nat → Nat) (a' m' b' : Nat), b' - a' < N → RP w B A n c f D → a' < m' → m' < b' → b' ≤ n → Srt T D a' m' → Srt T D m' b' → LR D a' m' b' → Calls Try.prog 25 #[.slice A n c, .int .i64 (a' : Int), .int .i64 (m' : Int), .int .i64 (b' : Int), .func (.func g) #[] #[]] w (SPost w B A n c f T D a' b')

set_option maxHeartbeats 8000000 in
theorem sm1_any (B A0 n c : Nat) (f : Nat → Ent) (g : FuncId) (_T : Nat → Nat → Prop) (a m b mid i e : Nat) (hn : n ≤ 1000000) (w W : World) (D : Nat → Nat) (hr : RP W B (some ⟨A0, 0, none⟩) n c f D) (hB : Below B w W) (HE : i ≤ m ∧ m ≤ e ∧ e ≤ b ∧ b ≤ n) {x5 x6 x7 x8 x9 x10 x11 x12 x13 x14 x15 x16 x17 x19 x21 x22 x23 x25 x26 x27 x28 x29 x30 x31 x32 x33 x34 x35 x36 x37 x38 x39 x40 x41 x42 x43 x44 x45 x46 x47 x48 x49 x50 x51 x52 x53 x54 x55 x56 x57 x58 x59 x60 x61 x62 x63 x64 x65 x66 x67 x68 x69 x70 x71 x72 x73 x74 x75 x76 x77 x78 x79 x80 x81 x82 x83 x84 x85 x86 x87 x88 x89 x90 x91 x92 x93 x94 x95 x96 x97 x98 x99 x100 x101 x102 x103 x104 x105 x106 x107 x108 x109 x110 x111 x112 x113 x114 x115 x116 x117 x118 x119 x120 x121 x122 x123 x124 x125 x126 x127 x128 x129 x130 x131 x132 x133 x134 x135 x136 x137 x138 x139 x140 x141 x142 x143 x144 x145 x146 x147 x148 x149 x150 x151 x152 x153 x154 x155 x156 x157 x158 x159 x160 x161 x162 x163 x164 x165 x166 x167 x168 x169 x170 x171 x172 x173 x174 x175 x176 x177 x178 x179 x180 x181 x182 x183 x184 x185 x186 x187 x188 x189 x190 x191 x192 x193 x194 x195 x196 x197 x198 x199 x200 x201 x202 x203 x204 x205 x206 x207 x208 x209 x210 x211 x212 x213 x214 x215 x216 x217 x218 x219 : Value} (K : Act → World → Prop) (PP : Ending → World → Prop)
    (hK : ∀ (y25 y26 y27 y28 y29 y30 y31 y32 y33 y34 y35 y36 y37 y38 y39 y40 y41 y42 y43 y44 y45 y46 y47 y48 y49 y50 y51 y52 y53 y54 y55 y56 y57 y58 y59 y60 y61 y62 y63 y64 y65 y66 y67 y68 y69 y70 y71 y72 y73 y74 y75 y76 y77 y78 y79 y80 y81 y82 y83 y84 y85 y86 y87 y88 y89 y90 y91 y92 y93 y94 y95 y96 y97 y98 y99 y100 y101 y102 y103 y104 y105 y106 y107 y108 y109 y110 y111 y112 y113 y114 y115 y116 y117 y118 y119 y120 y121 y122 y123 y124 y125 y126 y127 y128 y129 y130 y131 y132 y133 y134 y135 y136 y137 y138 y139 y140 y141 y142 y143 y144 y145 y146 y147 y148 y149 y150 y151 y152 y153 y154 y155 y156 y157 y158 y159 y160 y161 y162 y163 y164 y165 y166 y167 y168 y169 y170 y171 y172 y173 y174 y175 y176 y177 y178 y179 y180 y181 y182 y183 y184 y185 y186 y187 y188 y189 y190 y191 y192 y193 y194 y195 y196 y197 y198 y199 y200 y201 y202 y203 y204 y205 y206 y207 y208 y209 y210 y211 y212 y213 y214 y215 y216 y217 y218 y219 : Value) (wx : World), RP wx B (some ⟨A0, 0, none⟩) n c f (rotD D i m e) → Below B w wx → K { tmps := List.toArray (Value.slice (some ⟨A0, 0, none⟩) n c :: Value.int .i64 (a : Int) :: Value.int .i64 (m : Int) :: Value.int .i64 (b : Int) :: Value.func (.func g) #[] #[] :: x5 :: x6 :: x7 :: x8 :: x9 :: x10 :: x11 :: x12 :: x13 :: x14 :: x15 :: x16 :: x17 :: Value.int .i64 (mid : Int) :: x19 :: Value.int .i64 (i : Int) :: x21 :: x22 :: x23 :: Value.int .i64 (e : Int) :: y25 :: y26 :: y27 :: y28 :: y29 :: y30 :: y31 :: y32 :: y33 :: y34 :: y35 :: y36 :: y37 :: y38 :: y39 :: y40 :: y41 :: y42 :: y43 :: y44 :: y45 :: y46 :: y47 :: y48 :: y49 :: y50 :: y51 :: y52 :: y53 :: y54 :: y55 :: y56 :: y57 :: y58 :: y59 :: y60 :: y61 :: y62 :: y63 :: y64 :: y65 :: y66 :: y67 :: y68 :: y69 :: y70 :: y71 :: y72 :: y73 :: y74 :: y75 :: y76 :: y77 :: y78 :: y79 :: y80 :: y81 :: y82 :: y83 :: y84 :: y85 :: y86 :: y87 :: y88 :: y89 :: y90 :: y91 :: y92 :: y93 :: y94 :: y95 :: y96 :: y97 :: y98 :: y99 :: y100 :: y101 :: y102 :: y103 :: y104 :: y105 :: y106 :: y107 :: y108 :: y109 :: y110 :: y111 :: y112 :: y113 :: y114 :: y115 :: y116 :: y117 :: y118 :: y119 :: y120 :: y121 :: y122 :: y123 :: y124 :: y125 :: y126 :: y127 :: y128 :: y129 :: y130 :: y131 :: y132 :: y133 :: y134 :: y135 :: y136 :: y137 :: y138 :: y139 :: y140 :: y141 :: y142 :: y143 :: y144 :: y145 :: y146 :: y147 :: y148 :: y149 :: y150 :: y151 :: y152 :: y153 :: y154 :: y155 :: y156 :: y157 :: y158 :: y159 :: y160 :: y161 :: y162 :: y163 :: y164 :: y165 :: y166 :: y167 :: y168 :: y169 :: y170 :: y171 :: y172 :: y173 :: y174 :: y175 :: y176 :: y177 :: y178 :: y179 :: y180 :: y181 :: y182 :: y183 :: y184 :: y185 :: y186 :: y187 :: y188 :: y189 :: y190 :: y191 :: y192 :: y193 :: y194 :: y195 :: y196 :: y197 :: y198 :: y199 :: y200 :: y201 :: y202 :: y203 :: y204 :: y205 :: y206 :: y207 :: y208 :: y209 :: y210 :: y211 :: y212 :: y213 :: y214 :: y215 :: y216 :: y217 :: y218 :: y219 :: []), defers := [] } wx) :
    Code.wp Try.prog sm1 (Exit.then K (bodyPost Try.prog Try.f25 PP)) { tmps := List.toArray (Value.slice (some ⟨A0, 0, none⟩) n c :: Value.int .i64 (a : Int) :: Value.int .i64 (m : Int) :: Value.int .i64 (b : Int) :: Value.func (.func g) #[] #[] :: x5 :: x6 :: x7 :: x8 :: x9 :: x10 :: x11 :: x12 :: x13 :: x14 :: x15 :: x16 :: x17 :: Value.int .i64 (mid : Int) :: x19 :: Value.int .i64 (i : Int) :: x21 :: x22 :: x23 :: Value.int .i64 (e : Int) :: x25 :: x26 :: x27 :: x28 :: x29 :: x30 :: x31 :: x32 :: x33 :: x34 :: x35 :: x36 :: x37 :: x38 :: x39 :: x40 :: x41 :: x42 :: x43 :: x44 :: x45 :: x46 :: x47 :: x48 :: x49 :: x50 :: x51 :: x52 :: x53 :: x54 :: x55 :: x56 :: x57 :: x58 :: x59 :: x60 :: x61 :: x62 :: x63 :: x64 :: x65 :: x66 :: x67 :: x68 :: x69 :: x70 :: x71 :: x72 :: x73 :: x74 :: x75 :: x76 :: x77 :: x78 :: x79 :: x80 :: x81 :: x82 :: x83 :: x84 :: x85 :: x86 :: x87 :: x88 :: x89 :: x90 :: x91 :: x92 :: x93 :: x94 :: x95 :: x96 :: x97 :: x98 :: x99 :: x100 :: x101 :: x102 :: x103 :: x104 :: x105 :: x106 :: x107 :: x108 :: x109 :: x110 :: x111 :: x112 :: x113 :: x114 :: x115 :: x116 :: x117 :: x118 :: x119 :: x120 :: x121 :: x122 :: x123 :: x124 :: x125 :: x126 :: x127 :: x128 :: x129 :: x130 :: x131 :: x132 :: x133 :: x134 :: x135 :: x136 :: x137 :: x138 :: x139 :: x140 :: x141 :: x142 :: x143 :: x144 :: x145 :: x146 :: x147 :: x148 :: x149 :: x150 :: x151 :: x152 :: x153 :: x154 :: x155 :: x156 :: x157 :: x158 :: x159 :: x160 :: x161 :: x162 :: x163 :: x164 :: x165 :: x166 :: x167 :: x168 :: x169 :: x170 :: x171 :: x172 :: x173 :: x174 :: x175 :: x176 :: x177 :: x178 :: x179 :: x180 :: x181 :: x182 :: x183 :: x184 :: x185 :: x186 :: x187 :: x188 :: x189 :: x190 :: x191 :: x192 :: x193 :: x194 :: x195 :: x196 :: x197 :: x198 :: x199 :: x200 :: x201 :: x202 :: x203 :: x204 :: x205 :: x206 :: x207 :: x208 :: x209 :: x210 :: x211 :: x212 :: x213 :: x214 :: x215 :: x216 :: x217 :: x218 :: x219 :: []), defers := [] } W := by
  conv => arg 2; whnf
  have HK2 := Lib.hid hr
  have HB2 := Lib.hid hB
  have HKK := Lib.hid hK
  obtain ⟨q1, q2, q3, q4⟩ := HE
  clear hr hB hK
  go_upto_region 39 with fail
  go_cut [185] (fun v wx => v = .bool (decide (i < m ∧ m < e)) ∧ W = wx)
  case first =>
    by_cases h1 : i < m
    · have g1 : (i : Int) < (m : Int) := by omega
      have g1b : decide (i < m) = true := by simp; omega
      by_cases h2 : m < e
      · have g2 : (m : Int) < (e : Int) := by omega
        have hv := Lib.hid (show decide (i < m ∧ m < e) = true by simp; omega)
        go_wp2_with fail
        go_meet
        exact ⟨congrArg Value.bool hv.out.symm, rfl⟩
      · have g2 : ¬ (m : Int) < (e : Int) := by omega
        have hv := Lib.hid (show decide (i < m ∧ m < e) = false by simp; omega)
        go_wp2_with fail
        go_meet
        exact ⟨congrArg Value.bool hv.out.symm, rfl⟩
    · have g1 : ¬ (i : Int) < (m : Int) := by omega
      have hv := Lib.hid (show decide (i < m ∧ m < e) = false by simp; omega)
      go_wp2_with fail
      go_meet
      exact ⟨congrArg Value.bool hv.out.symm, rfl⟩
  case rest =>
    obtain ⟨rfl, rfl⟩ := hcut
    obtain ⟨bb, hbb⟩ : ∃ bb, bb = decide (i < m ∧ m < e) := ⟨_, rfl⟩
    rw [← hbb]
    have HBB := Lib.hid hbb
    clear hbb
    cases bb with
    | true =>
      have hb1 := of_decide_eq_true HBB.out.symm
      have c1 := Lib.hid (fun fv => rotate_any W B (some ⟨A0, 0, none⟩) n c f D HK2.out i m e hb1.1 hb1.2 (by omega) hn fv)
      clear hb1
      go_wp2_with fail
      refine (c1.out _).mono ?_
      rintro e9 w9 ⟨rfl, hr9, hb9⟩
      have HK9 := Lib.hid hr9
      have HB9 := Lib.hid (HB2.out.trans hb9)
      clear hr9 hb9
      go_wp2_with fail
      exact HKK.out _ _ _ _ _ _ _ _ _ _ _ _ _ _ _ _ _ _ _ _ _ _ _ _ _ _ _ _ _ _ _ _ _ _ _ _ _ _ _ _ _ _ _ _ _ _ _ _ _ _ _ _ _ _ _ _ _ _ _ _ _ _ _ _ _ _ _ _ _ _ _ _ _ _ _ _ _ _ _ _ _ _ _ _ _ _ _ _ _ _ _ _ _ _ _ _ _ _ _ _ _ _ _ _ _ _ _ _ _ _ _ _ _ _ _ _ _ _ _ _ _ _ _ _ _ _ _ _ _ _ _ _ _ _ _ _ _ _ _ _ _ _ _ _ _ _ _ _ _ _ _ _ _ _ _ _ _ _ _ _ _ _ _ _ _ _ _ _ _ _ _ _ _ _ _ _ _ _ _ _ _ _ _ _ _ _ _ _ _ _ _ _ _ _ _ _ HK9.out HB9.out
    | false =>
      have HK9 : Hid (RP W B (some ⟨A0, 0, none⟩) n c f (rotD D i m e)) := Lib.hid (by
        have hb1 := of_decide_eq_false HBB.out.symm
        rw [rot_none D i m e q1 q2 (by omega)]
        exact HK2.out)
      go_wp2_with fail
      exact HKK.out _ _ _ _ _ _ _ _ _ _ _ _ _ _ _ _ _ _ _ _ _ _ _ _ _ _ _ _ _ _ _ _ _ _ _ _ _ _ _ _ _ _ _ _ _ _ _ _ _ _ _ _ _ _ _ _ _ _ _ _ _ _ _ _ _ _ _ _ _ _ _ _ _ _ _ _ _ _ _ _ _ _ _ _ _ _ _ _ _ _ _ _ _ _ _ _ _ _ _ _ _ _ _ _ _ _ _ _ _ _ _ _ _ _ _ _ _ _ _ _ _ _ _ _ _ _ _ _ _ _ _ _ _ _ _ _ _ _ _ _ _ _ _ _ _ _ _ _ _ _ _ _ _ _ _ _ _ _ _ _ _ _ _ _ _ _ _ _ _ _ _ _ _ _ _ _ _ _ _ _ _ _ _ _ _ _ _ _ _ _ _ _ _ _ _ _ HK9.out HB2.out

set_option maxHeartbeats 8000000 in
theorem sm2_any (B A0 n c : Nat) (f : Nat → Ent) (g : FuncId) (T : Nat → Nat → Prop) (a m b mid i e : Nat) (_hn : n ≤ 1000000) (w W : World) (D1 : Nat → Nat) (hr : RP W B (some ⟨A0, 0, none⟩) n c f D1) (hB : Below B w W) (ih : MergeDoes B (some ⟨A0, 0, none⟩) n c f g T (b - a)) (hM : Mid T D1 a i mid e b) (HE : a ≤ i ∧ i ≤ mid ∧ mid < b ∧ b ≤ n) {x5 x6 x7 x8 x9 x10 x11 x12 x13 x14 x15 x16 x17 x19 x21 x22 x23 x25 x26 x27 x28 x29 x30 x31 x32 x33 x34 x35 x36 x37 x38 x39 x40 x41 x42 x43 x44 x45 x46 x47 x48 x49 x50 x51 x52 x53 x54 x55 x56 x57 x58 x59 x60 x61 x62 x63 x64 x65 x66 x67 x68 x69 x70 x71 x72 x73 x74 x75 x76 x77 x78 x79 x80 x81 x82 x83 x84 x85 x86 x87 x88 x89 x90 x91 x92 x93 x94 x95 x96 x97 x98 x99 x100 x101 x102 x103 x104 x105 x106 x107 x108 x109 x110 x111 x112 x113 x114 x115 x116 x117 x118 x119 x120 x121 x122 x123 x124 x125 x126 x127 x128 x129 x130 x131 x132 x133 x134 x135 x136 x137 x138 x139 x140 x141 x142 x143 x144 x145 x146 x147 x148 x149 x150 x151 x152 x153 x154 x155 x156 x157 x158 x159 x160 x161 x162 x163 x164 x165 x166 x167 x168 x169 x170 x171 x172 x173 x174 x175 x176 x177 x178 x179 x180 x181 x182 x183 x184 x185 x186 x187 x188 x189 x190 x191 x192 x193 x194 x195 x196 x197 x198 x199 x200 x201 x202 x203 x204 x205 x206 x207 x208 x209 x210 x211 x212 x213 x214 x215 x216 x217 x218 x219 : Value} (K : Act → World → Prop) (PP : Ending → World → Prop)
    (hK : ∀ (y25 y26 y27 y28 y29 y30 y31 y32 y33 y34 y35 y36 y37 y38 y39 y40 y41 y42 y43 y44 y45 y46 y47 y48 y49 y50 y51 y52 y53 y54 y55 y56 y57 y58 y59 y60 y61 y62 y63 y64 y65 y66 y67 y68 y69 y70 y71 y72 y73 y74 y75 y76 y77 y78 y79 y80 y81 y82 y83 y84 y85 y86 y87 y88 y89 y90 y91 y92 y93 y94 y95 y96 y97 y98 y99 y100 y101 y102 y103 y104 y105 y106 y107 y108 y109 y110 y111 y112 y113 y114 y115 y116 y117 y118 y119 y120 y121 y122 y123 y124 y125 y126 y127 y128 y129 y130 y131 y132 y133 y134 y135 y136 y137 y138 y139 y140 y141 y142 y143 y144 y145 y146 y147 y148 y149 y150 y151 y152 y153 y154 y155 y156 y157 y158 y159 y160 y161 y162 y163 y164 y165 y166 y167 y168 y169 y170 y171 y172 y173 y174 y175 y176 y177 y178 y179 y180 y181 y182 y183 y184 y185 y186 y187 y188 y189 y190 y191 y192 y193 y194 y195 y196 y197 y198 y199 y200 y201 y202 y203 y204 y205 y206 y207 y208 y209 y210 y211 y212 y213 y214 y215 y216 y217 y218 y219 : Value) (wx : World), (∃ D2, RP wx B (some ⟨A0, 0, none⟩) n c f D2 ∧ Prm D1 D2 a mid ∧ Srt T D2 a mid ∧ Below B w wx) → K { tmps := List.toArray (Value.slice (some ⟨A0, 0, none⟩) n c :: Value.int .i64 (a : Int) :: Value.int .i64 (m : Int) :: Value.int .i64 (b : Int) :: Value.func (.func g) #[] #[] :: x5 :: x6 :: x7 :: x8 :: x9 :: x10 :: x11 :: x12 :: x13 :: x14 :: x15 :: x16 :: x17 :: Value.int .i64 (mid : Int) :: x19 :: Value.int .i64 (i : Int) :: x21 :: x22 :: x23 :: Value.int .i64 (e : Int) :: y25 :: y26 :: y27 :: y28 :: y29 :: y30 :: y31 :: y32 :: y33 :: y34 :: y35 :: y36 :: y37 :: y38 :: y39 :: y40 :: y41 :: y42 :: y43 :: y44 :: y45 :: y46 :: y47 :: y48 :: y49 :: y50 :: y51 :: y52 :: y53 :: y54 :: y55 :: y56 :: y57 :: y58 :: y59 :: y60 :: y61 :: y62 :: y63 :: y64 :: y65 :: y66 :: y67 :: y68 :: y69 :: y70 :: y71 :: y72 :: y73 :: y74 :: y75 :: y76 :: y77 :: y78 :: y79 :: y80 :: y81 :: y82 :: y83 :: y84 :: y85 :: y86 :: y87 :: y88 :: y89 :: y90 :: y91 :: y92 :: y93 :: y94 :: y95 :: y96 :: y97 :: y98 :: y99 :: y100 :: y101 :: y102 :: y103 :: y104 :: y105 :: y106 :: y107 :: y108 :: y109 :: y110 :: y111 :: y112 :: y113 :: y114 :: y115 :: y116 :: y117 :: y118 :: y119 :: y120 :: y121 :: y122 :: y123 :: y124 :: y125 :: y126 :: y127 :: y128 :: y129 :: y130 :: y131 :: y132 :: y133 :: y134 :: y135 :: y136 :: y137 :: y138 :: y139 :: y140 :: y141 :: y142 :: y143 :: y144 :: y145 :: y146 :: y147 :: y148 :: y149 :: y150 :: y151 :: y152 :: y153 :: y154 :: y155 :: y156 :: y157 :: y158 :: y159 :: y160 :: y161 :: y162 :: y163 :: y164 :: y165 :: y166 :: y167 :: y168 :: y169 :: y170 :: y171 :: y172 :: y173 :: y174 :: y175 :: y176 :: y177 :: y178 :: y179 :: y180 :: y181 :: y182 :: y183 :: y184 :: y185 :: y186 :: y187 :: y188 :: y189 :: y190 :: y191 :: y192 :: y193 :: y194 :: y195 :: y196 :: y197 :: y198 :: y199 :: y200 :: y201 :: y202 :: y203 :: y204 :: y205 :: y206 :: y207 :: y208 :: y209 :: y210 :: y211 :: y212 :: y213 :: y214 :: y215 :: y216 :: y217 :: y218 :: y219 :: []), defers := [] } wx) :
    Code.wp Try.prog sm2 (Exit.then K (bodyPost Try.prog Try.f25 PP)) { tmps := List.toArray (Value.slice (some ⟨A0, 0, none⟩) n c :: Value.int .i64 (a : Int) :: Value.int .i64 (m : Int) :: Value.int .i64 (b : Int) :: Value.func (.func g) #[] #[] :: x5 :: x6 :: x7 :: x8 :: x9 :: x10 :: x11 :: x12 :: x13 :: x14 :: x15 :: x16 :: x17 :: Value.int .i64 (mid : Int) :: x19 :: Value.int .i64 (i : Int) :: x21 :: x22 :: x23 :: Value.int .i64 (e : Int) :: x25 :: x26 :: x27 :: x28 :: x29 :: x30 :: x31 :: x32 :: x33 :: x34 :: x35 :: x36 :: x37 :: x38 :: x39 :: x40 :: x41 :: x42 :: x43 :: x44 :: x45 :: x46 :: x47 :: x48 :: x49 :: x50 :: x51 :: x52 :: x53 :: x54 :: x55 :: x56 :: x57 :: x58 :: x59 :: x60 :: x61 :: x62 :: x63 :: x64 :: x65 :: x66 :: x67 :: x68 :: x69 :: x70 :: x71 :: x72 :: x73 :: x74 :: x75 :: x76 :: x77 :: x78 :: x79 :: x80 :: x81 :: x82 :: x83 :: x84 :: x85 :: x86 :: x87 :: x88 :: x89 :: x90 :: x91 :: x92 :: x93 :: x94 :: x95 :: x96 :: x97 :: x98 :: x99 :: x100 :: x101 :: x102 :: x103 :: x104 :: x105 :: x106 :: x107 :: x108 :: x109 :: x110 :: x111 :: x112 :: x113 :: x114 :: x115 :: x116 :: x117 :: x118 :: x119 :: x120 :: x121 :: x122 :: x123 :: x124 :: x125 :: x126 :: x127 :: x128 :: x129 :: x130 :: x131 :: x132 :: x133 :: x134 :: x135 :: x136 :: x137 :: x138 :: x139 :: x140 :: x141 :: x142 :: x143 :: x144 :: x145 :: x146 :: x147 :: x148 :: x149 :: x150 :: x151 :: x152 :: x153 :: x154 :: x155 :: x156 :: x157 :: x158 :: x159 :: x160 :: x161 :: x162 :: x163 :: x164 :: x165 :: x166 :: x167 :: x168 :: x169 :: x170 :: x171 :: x172 :: x173 :: x174 :: x175 :: x176 :: x177 :: x178 :: x179 :: x180 :: x181 :: x182 :: x183 :: x184 :: x185 :: x186 :: x187 :: x188 :: x189 :: x190 :: x191 :: x192 :: x193 :: x194 :: x195 :: x196 :: x197 :: x198 :: x199 :: x200 :: x201 :: x202 :: x203 :: x204 :: x205 :: x206 :: x207 :: x208 :: x209 :: x210 :: x211 :: x212 :: x213 :: x214 :: x215 :: x216 :: x217 :: x218 :: x219 :: []), defers := [] } W := by
  conv => arg 2; whnf
  have HK4 := Lib.hid hr
  have HB4 := Lib.hid hB
  have HKK := Lib.hid hK
  have IH := Lib.hid ih
  have HMI := Lib.hid hM
  obtain ⟨q1, q2, q3, q4⟩ := HE
  clear hr hB hK ih hM
  go_upto_region 41 with fail
  go_cut [199] (fun v wx => v = .bool (decide (a < i ∧ i < mid)) ∧ W = wx)
  case first =>
    by_cases h1 : a < i
    · have g1 : (a : Int) < (i : Int) := by omega
      have g1b : decide (a < i) = true := by simp; omega
      by_cases h2 : i < mid
      · have g2 : (i : Int) < (mid : Int) := by omega
        have hv := Lib.hid (show decide (a < i ∧ i < mid) = true by simp; omega)
        go_wp2_with fail
        go_meet
        exact ⟨congrArg Value.bool hv.out.symm, rfl⟩
      · have g2 : ¬ (i : Int) < (mid : Int) := by omega
        have hv := Lib.hid (show decide (a < i ∧ i < mid) = false by simp; omega)
        go_wp2_with fail
        go_meet
        exact ⟨congrArg Value.bool hv.out.symm, rfl⟩
    · have g1 : ¬ (a : Int) < (i : Int) := by omega
      have hv := Lib.hid (show decide (a < i ∧ i < mid) = false by simp; omega)
      go_wp2_with fail
      go_meet
      exact ⟨congrArg Value.bool hv.out.symm, rfl⟩
  case rest =>
    obtain ⟨rfl, rfl⟩ := hcut
    obtain ⟨bb, hbb⟩ : ∃ bb, bb = decide (a < i ∧ i < mid) := ⟨_, rfl⟩
    rw [← hbb]
    have HBB := Lib.hid hbb
    clear hbb
    cases bb with
    | true =>
      have hb1 := of_decide_eq_true HBB.out.symm
      have c1 := Lib.hid (IH.out W D1 a i mid (by omega) HK4.out hb1.1 hb1.2 (by omega) HMI.out.s1 HMI.out.s2 HMI.out.l1)
      clear hb1
      go_wp2_with fail
      refine c1.out.mono ?_
      rintro e9 w9 ⟨rfl, D2, hr9, hp9, hs9, hb9⟩
      have HK9 := Lib.hid hr9
      have HB9 := Lib.hid (HB4.out.trans hb9)
      have HP9 := Lib.hid hp9
      have HS9 := Lib.hid hs9
      clear hr9 hb9 hp9 hs9
      go_wp2_with fail
      exact HKK.out _ _ _ _ _ _ _ _ _ _ _ _ _ _ _ _ _ _ _ _ _ _ _ _ _ _ _ _ _ _ _ _ _ _ _ _ _ _ _ _ _ _ _ _ _ _ _ _ _ _ _ _ _ _ _ _ _ _ _ _ _ _ _ _ _ _ _ _ _ _ _ _ _ _ _ _ _ _ _ _ _ _ _ _ _ _ _ _ _ _ _ _ _ _ _ _ _ _ _ _ _ _ _ _ _ _ _ _ _ _ _ _ _ _ _ _ _ _ _ _ _ _ _ _ _ _ _ _ _ _ _ _ _ _ _ _ _ _ _ _ _ _ _ _ _ _ _ _ _ _ _ _ _ _ _ _ _ _ _ _ _ _ _ _ _ _ _ _ _ _ _ _ _ _ _ _ _ _ _ _ _ _ _ _ _ _ _ _ _ _ _ _ _ _ _ _ ⟨D2, HK9.out, HP9.out, HS9.out, HB9.out⟩
    | false =>
      have HS9 : Hid (Srt T D1 a mid) := Lib.hid (by
        have hb1 := of_decide_eq_false HBB.out.symm
        rcases Nat.eq_or_lt_of_le q1 with q | q
        · rw [q]; exact HMI.out.s2
        · rw [show mid = i by omega]; exact HMI.out.s1)
      go_wp2_with fail
      exact HKK.out _ _ _ _ _ _ _ _ _ _ _ _ _ _ _ _ _ _ _ _ _ _ _ _ _ _ _ _ _ _ _ _ _ _ _ _ _ _ _ _ _ _ _ _ _ _ _ _ _ _ _ _ _ _ _ _ _ _ _ _ _ _ _ _ _ _ _ _ _ _ _ _ _ _ _ _ _ _ _ _ _ _ _ _ _ _ _ _ _ _ _ _ _ _ _ _ _ _ _ _ _ _ _ _ _ _ _ _ _ _ _ _ _ _ _ _ _ _ _ _ _ _ _ _ _ _ _ _ _ _ _ _ _ _ _ _ _ _ _ _ _ _ _ _ _ _ _ _ _ _ _ _ _ _ _ _ _ _ _ _ _ _ _ _ _ _ _ _ _ _ _ _ _ _ _ _ _ _ _ _ _ _ _ _ _ _ _ _ _ _ _ _ _ _ _ _ ⟨D1, HK4.out, Prm.refl _ _ _, HS9.out, HB4.out⟩

set_option maxHeartbeats 8000000 in
theorem sm3_any (B A0 n c : Nat) (f : Nat → Ent) (g : FuncId) (T : Nat → Nat → Prop) (a m b mid i e : Nat) (_hn : n ≤ 1000000) (w W : World) (D2 : Nat → Nat) (hr : RP W B (some ⟨A0, 0, none⟩) n c f D2) (hB : Below B w W) (ih : MergeDoes B (some ⟨A0, 0, none⟩) n c f g T (b - a)) (hS : Srt T D2 mid e ∧ Srt T D2 e b ∧ LR D2 mid e b) (HE : a < mid ∧ mid ≤ e ∧ e ≤ b ∧ b ≤ n) {x5 x6 x7 x8 x9 x10 x11 x12 x13 x14 x15 x16 x17 x19 x21 x22 x23 x25 x26 x27 x28 x29 x30 x31 x32 x33 x34 x35 x36 x37 x38 x39 x40 x41 x42 x43 x44 x45 x46 x47 x48 x49 x50 x51 x52 x53 x54 x55 x56 x57 x58 x59 x60 x61 x62 x63 x64 x65 x66 x67 x68 x69 x70 x71 x72 x73 x74 x75 x76 x77 x78 x79 x80 x81 x82 x83 x84 x85 x86 x87 x88 x89 x90 x91 x92 x93 x94 x95 x96 x97 x98 x99 x100 x101 x102 x103 x104 x105 x106 x107 x108 x109 x110 x111 x112 x113 x114 x115 x116 x117 x118 x119 x120 x121 x122 x123 x124 x125 x126 x127 x128 x129 x130 x131 x132 x133 x134 x135 x136 x137 x138 x139 x140 x141 x142 x143 x144 x145 x146 x147 x148 x149 x150 x151 x152 x153 x154 x155 x156 x157 x158 x159 x160 x161 x162 x163 x164 x165 x166 x167 x168 x169 x170 x171 x172 x173 x174 x175 x176 x177 x178 x179 x180 x181 x182 x183 x184 x185 x186 x187 x188 x189 x190 x191 x192 x193 x194 x195 x196 x197 x198 x199 x200 x201 x202 x203 x204 x205 x206 x207 x208 x209 x210 x211 x212 x213 x214 x215 x216 x217 x218 x219 : Value} (PP : Ending → World → Prop)
    (hK : ∀ (y25 y26 y27 y28 y29 y30 y31 y32 y33 y34 y35 y36 y37 y38 y39 y40 y41 y42 y43 y44 y45 y46 y47 y48 y49 y50 y51 y52 y53 y54 y55 y56 y57 y58 y59 y60 y61 y62 y63 y64 y65 y66 y67 y68 y69 y70 y71 y72 y73 y74 y75 y76 y77 y78 y79 y80 y81 y82 y83 y84 y85 y86 y87 y88 y89 y90 y91 y92 y93 y94 y95 y96 y97 y98 y99 y100 y101 y102 y103 y104 y105 y106 y107 y108 y109 y110 y111 y112 y113 y114 y115 y116 y117 y118 y119 y120 y121 y122 y123 y124 y125 y126 y127 y128 y129 y130 y131 y132 y133 y134 y135 y136 y137 y138 y139 y140 y141 y142 y143 y144 y145 y146 y147 y148 y149 y150 y151 y152 y153 y154 y155 y156 y157 y158 y159 y160 y161 y162 y163 y164 y165 y166 y167 y168 y169 y170 y171 y172 y173 y174 y175 y176 y177 y178 y179 y180 y181 y182 y183 y184 y185 y186 y187 y188 y189 y190 y191 y192 y193 y194 y195 y196 y197 y198 y199 y200 y201 y202 y203 y204 y205 y206 y207 y208 y209 y210 y211 y212 y213 y214 y215 y216 y217 y218 y219 : Value) (wx : World), (∃ D3, RP wx B (some ⟨A0, 0, none⟩) n c f D3 ∧ Prm D2 D3 mid b ∧ Srt T D3 mid b ∧ Below B w wx) → (bodyPost Try.prog Try.f25 PP) .normal { tmps := List.toArray (Value.slice (some ⟨A0, 0, none⟩) n c :: Value.int .i64 (a : Int) :: Value.int .i64 (m : Int) :: Value.int .i64 (b : Int) :: Value.func (.func g) #[] #[] :: x5 :: x6 :: x7 :: x8 :: x9 :: x10 :: x11 :: x12 :: x13 :: x14 :: x15 :: x16 :: x17 :: Value.int .i64 (mid : Int) :: x19 :: Value.int .i64 (i : Int) :: x21 :: x22 :: x23 :: Value.int .i64 (e : Int) :: y25 :: y26 :: y27 :: y28 :: y29 :: y30 :: y31 :: y32 :: y33 :: y34 :: y35 :: y36 :: y37 :: y38 :: y39 :: y40 :: y41 :: y42 :: y43 :: y44 :: y45 :: y46 :: y47 :: y48 :: y49 :: y50 :: y51 :: y52 :: y53 :: y54 :: y55 :: y56 :: y57 :: y58 :: y59 :: y60 :: y61 :: y62 :: y63 :: y64 :: y65 :: y66 :: y67 :: y68 :: y69 :: y70 :: y71 :: y72 :: y73 :: y74 :: y75 :: y76 :: y77 :: y78 :: y79 :: y80 :: y81 :: y82 :: y83 :: y84 :: y85 :: y86 :: y87 :: y88 :: y89 :: y90 :: y91 :: y92 :: y93 :: y94 :: y95 :: y96 :: y97 :: y98 :: y99 :: y100 :: y101 :: y102 :: y103 :: y104 :: y105 :: y106 :: y107 :: y108 :: y109 :: y110 :: y111 :: y112 :: y113 :: y114 :: y115 :: y116 :: y117 :: y118 :: y119 :: y120 :: y121 :: y122 :: y123 :: y124 :: y125 :: y126 :: y127 :: y128 :: y129 :: y130 :: y131 :: y132 :: y133 :: y134 :: y135 :: y136 :: y137 :: y138 :: y139 :: y140 :: y141 :: y142 :: y143 :: y144 :: y145 :: y146 :: y147 :: y148 :: y149 :: y150 :: y151 :: y152 :: y153 :: y154 :: y155 :: y156 :: y157 :: y158 :: y159 :: y160 :: y161 :: y162 :: y163 :: y164 :: y165 :: y166 :: y167 :: y168 :: y169 :: y170 :: y171 :: y172 :: y173 :: y174 :: y175 :: y176 :: y177 :: y178 :: y179 :: y180 :: y181 :: y182 :: y183 :: y184 :: y185 :: y186 :: y187 :: y188 :: y189 :: y190 :: y191 :: y192 :: y193 :: y194 :: y195 :: y196 :: y197 :: y198 :: y199 :: y200 :: y201 :: y202 :: y203 :: y204 :: y205 :: y206 :: y207 :: y208 :: y209 :: y210 :: y211 :: y212 :: y213 :: y214 :: y215 :: y216 :: y217 :: y218 :: y219 :: []), defers := [] } wx) :
    Code.wp Try.prog sm3 (bodyPost Try.prog Try.f25 PP) { tmps := List.toArray (Value.slice (some ⟨A0, 0, none⟩) n c :: Value.int .i64 (a : Int) :: Value.int .i64 (m : Int) :: Value.int .i64 (b : Int) :: Value.func (.func g) #[] #[] :: x5 :: x6 :: x7 :: x8 :: x9 :: x10 :: x11 :: x12 :: x13 :: x14 :: x15 :: x16 :: x17 :: Value.int .i64 (mid : Int) :: x19 :: Value.int .i64 (i : Int) :: x21 :: x22 :: x23 :: Value.int .i64 (e : Int) :: x25 :: x26 :: x27 :: x28 :: x29 :: x30 :: x31 :: x32 :: x33 :: x34 :: x35 :: x36 :: x37 :: x38 :: x39 :: x40 :: x41 :: x42 :: x43 :: x44 :: x45 :: x46 :: x47 :: x48 :: x49 :: x50 :: x51 :: x52 :: x53 :: x54 :: x55 :: x56 :: x57 :: x58 :: x59 :: x60 :: x61 :: x62 :: x63 :: x64 :: x65 :: x66 :: x67 :: x68 :: x69 :: x70 :: x71 :: x72 :: x73 :: x74 :: x75 :: x76 :: x77 :: x78 :: x79 :: x80 :: x81 :: x82 :: x83 :: x84 :: x85 :: x86 :: x87 :: x88 :: x89 :: x90 :: x91 :: x92 :: x93 :: x94 :: x95 :: x96 :: x97 :: x98 :: x99 :: x100 :: x101 :: x102 :: x103 :: x104 :: x105 :: x106 :: x107 :: x108 :: x109 :: x110 :: x111 :: x112 :: x113 :: x114 :: x115 :: x116 :: x117 :: x118 :: x119 :: x120 :: x121 :: x122 :: x123 :: x124 :: x125 :: x126 :: x127 :: x128 :: x129 :: x130 :: x131 :: x132 :: x133 :: x134 :: x135 :: x136 :: x137 :: x138 :: x139 :: x140 :: x141 :: x142 :: x143 :: x144 :: x145 :: x146 :: x147 :: x148 :: x149 :: x150 :: x151 :: x152 :: x153 :: x154 :: x155 :: x156 :: x157 :: x158 :: x159 :: x160 :: x161 :: x162 :: x163 :: x164 :: x165 :: x166 :: x167 :: x168 :: x169 :: x170 :: x171 :: x172 :: x173 :: x174 :: x175 :: x176 :: x177 :: x178 :: x179 :: x180 :: x181 :: x182 :: x183 :: x184 :: x185 :: x186 :: x187 :: x188 :: x189 :: x190 :: x191 :: x192 :: x193 :: x194 :: x195 :: x196 :: x197 :: x198 :: x199 :: x200 :: x201 :: x202 :: x203 :: x204 :: x205 :: x206 :: x207 :: x208 :: x209 :: x210 :: x211 :: x212 :: x213 :: x214 :: x215 :: x216 :: x217 :: x218 :: x219 :: []), defers := [] } W := by
  conv => arg 2; whnf
  have HK5 := Lib.hid hr
  have HB5 := Lib.hid hB
  have HKK := Lib.hid hK
  have IH := Lib.hid ih
  have HS6 := Lib.hid hS
  obtain ⟨q1, q2, q3, q4⟩ := HE
  clear hr hB hK ih hS
  go_upto_region 43 with fail
  go_cut [213] (fun v wx => v = .bool (decide (mid < e ∧ e < b)) ∧ W = wx)
  case first =>
    by_cases h1 : mid < e
    · have g1 : (mid : Int) < (e : Int) := by omega
      have g1b : decide (mid < e) = true := by simp; omega
      by_cases h2 : e < b
      · have g2 : (e : Int) < (b : Int) := by omega
        have hv := Lib.hid (show decide (mid < e ∧ e < b) = true by simp; omega)
        go_wp2_with fail
        go_meet
        exact ⟨congrArg Value.bool hv.out.symm, rfl⟩
      · have g2 : ¬ (e : Int) < (b : Int) := by omega
        have hv := Lib.hid (show decide (mid < e ∧ e < b) = false by simp; omega)
        go_wp2_with fail
        go_meet
        exact ⟨congrArg Value.bool hv.out.symm, rfl⟩
    · have g1 : ¬ (mid : Int) < (e : Int) := by omega
      have hv := Lib.hid (show decide (mid < e ∧ e < b) = false by simp; omega)
      go_wp2_with fail
      go_meet
      exact ⟨congrArg Value.bool hv.out.symm, rfl⟩
  case rest =>
    obtain ⟨rfl, rfl⟩ := hcut
    obtain ⟨bb, hbb⟩ : ∃ bb, bb = decide (mid < e ∧ e < b) := ⟨_, rfl⟩
    rw [← hbb]
    have HBB := Lib.hid hbb
    clear hbb
    cases bb with
    | true =>
      have hb1 := of_decide_eq_true HBB.out.symm
      have c1 := Lib.hid (IH.out W D2 mid e b (by omega) HK5.out hb1.1 hb1.2 q4 HS6.out.1 HS6.out.2.1 HS6.out.2.2)
      clear hb1
      go_wp2_with fail
      refine c1.out.mono ?_
      rintro e9 w9 ⟨rfl, D3, hr9, hp9, hs9, hb9⟩
      have HK9 := Lib.hid hr9
      have HB9 := Lib.hid (HB5.out.trans hb9)
      have HP9 := Lib.hid hp9
      have HS9 := Lib.hid hs9
      clear hr9 hb9 hp9 hs9
      go_wp2_with fail
      exact HKK.out _ _ _ _ _ _ _ _ _ _ _ _ _ _ _ _ _ _ _ _ _ _ _ _ _ _ _ _ _ _ _ _ _ _ _ _ _ _ _ _ _ _ _ _ _ _ _ _ _ _ _ _ _ _ _ _ _ _ _ _ _ _ _ _ _ _ _ _ _ _ _ _ _ _ _ _ _ _ _ _ _ _ _ _ _ _ _ _ _ _ _ _ _ _ _ _ _ _ _ _ _ _ _ _ _ _ _ _ _ _ _ _ _ _ _ _ _ _ _ _ _ _ _ _ _ _ _ _ _ _ _ _ _ _ _ _ _ _ _ _ _ _ _ _ _ _ _ _ _ _ _ _ _ _ _ _ _ _ _ _ _ _ _ _ _ _ _ _ _ _ _ _ _ _ _ _ _ _ _ _ _ _ _ _ _ _ _ _ _ _ _ _ _ _ _ _ ⟨D3, HK9.out, HP9.out, HS9.out, HB9.out⟩
    | false =>
      have HS9 : Hid (Srt T D2 mid b) := Lib.hid (by
        have hb1 := of_decide_eq_false HBB.out.symm
        rcases Nat.eq_or_lt_of_le q2 with q | q
        · rw [q]; exact HS6.out.2.1
        · rw [show b = e by omega]; exact HS6.out.1)
      go_wp2_with fail
      exact HKK.out _ _ _ _ _ _ _ _ _ _ _ _ _ _ _ _ _ _ _ _ _ _ _ _ _ _ _ _ _ _ _ _ _ _ _ _ _ _ _ _ _ _ _ _ _ _ _ _ _ _ _ _ _ _ _ _ _ _ _ _ _ _ _ _ _ _ _ _ _ _ _ _ _ _ _ _ _ _ _ _ _ _ _ _ _ _ _ _ _ _ _ _ _ _ _ _ _ _ _ _ _ _ _ _ _ _ _ _ _ _ _ _ _ _ _ _ _ _ _ _ _ _ _ _ _ _ _ _ _ _ _ _ _ _ _ _ _ _ _ _ _ _ _ _ _ _ _ _ _ _ _ _ _ _ _ _ _ _ _ _ _ _ _ _ _ _ _ _ _ _ _ _ _ _ _ _ _ _ _ _ _ _ _ _ _ _ _ _ _ _ _ _ _ _ _ _ ⟨D2, HK5.out, Prm.refl _ _ _, HS9.out, HB5.out⟩

set_option maxHeartbeats 8000000 in
theorem smTail_any (B A0 n c : Nat) (f : Nat → Ent) (g : FuncId) (T : Nat → Nat → Prop) (a m b mid i e : Nat) (hn : n ≤ 1000000) (w W : World) (D : Nat → Nat) (hr : RP W B (some ⟨A0, 0, none⟩) n c f D) (hB : Below B w W) (ih : MergeDoes B (some ⟨A0, 0, none⟩) n c f g T (b - a)) (hM : Mid T (rotD D i m e) a i mid e b) (HE : a ≤ i ∧ i ≤ m ∧ i ≤ mid ∧ m ≤ e ∧ mid ≤ e ∧ e ≤ b ∧ b ≤ n ∧ a < mid ∧ mid < b) {x5 x6 x7 x8 x9 x10 x11 x12 x13 x14 x15 x16 x17 x19 x21 x22 x23 x25 x26 x27 x28 x29 x30 x31 x32 x33 x34 x35 x36 x37 x38 x39 x40 x41 x42 x43 x44 x45 x46 x47 x48 x49 x50 x51 x52 x53 x54 x55 x56 x57 x58 x59 x60 x61 x62 x63 x64 x65 x66 x67 x68 x69 x70 x71 x72 x73 x74 x75 x76 x77 x78 x79 x80 x81 x82 x83 x84 x85 x86 x87 x88 x89 x90 x91 x92 x93 x94 x95 x96 x97 x98 x99 x100 x101 x102 x103 x104 x105 x106 x107 x108 x109 x110 x111 x112 x113 x114 x115 x116 x117 x118 x119 x120 x121 x122 x123 x124 x125 x126 x127 x128 x129 x130 x131 x132 x133 x134 x135 x136 x137 x138 x139 x140 x141 x142 x143 x144 x145 x146 x147 x148 x149 x150 x151 x152 x153 x154 x155 x156 x157 x158 x159 x160 x161 x162 x163 x164 x165 x166 x167 x168 x169 x170 x171 x172 x173 x174 x175 x176 x177 x178 x179 x180 x181 x182 x183 x184 x185 x186 x187 x188 x189 x190 x191 x192 x193 x194 x195 x196 x197 x198 x199 x200 x201 x202 x203 x204 x205 x206 x207 x208 x209 x210 x211 x212 x213 x214 x215 x216 x217 x218 x219 : Value} :
    Code.wp Try.prog smTail (bodyPost Try.prog Try.f25 (SPost w B (some ⟨A0, 0, none⟩) n c f T D a b)) { tmps := List.toArray (Value.slice (some ⟨A0, 0, none⟩) n c :: Value.int .i64 (a : Int) :: Value.int .i64 (m : Int) :: Value.int .i64 (b : Int) :: Value.func (.func g) #[] #[] :: x5 :: x6 :: x7 :: x8 :: x9 :: x10 :: x11 :: x12 :: x13 :: x14 :: x15 :: x16 :: x17 :: Value.int .i64 (mid : Int) :: x19 :: Value.int .i64 (i : Int) :: x21 :: x22 :: x23 :: Value.int .i64 (e : Int) :: x25 :: x26 :: x27 :: x28 :: x29 :: x30 :: x31 :: x32 :: x33 :: x34 :: x35 :: x36 :: x37 :: x38 :: x39 :: x40 :: x41 :: x42 :: x43 :: x44 :: x45 :: x46 :: x47 :: x48 :: x49 :: x50 :: x51 :: x52 :: x53 :: x54 :: x55 :: x56 :: x57 :: x58 :: x59 :: x60 :: x61 :: x62 :: x63 :: x64 :: x65 :: x66 :: x67 :: x68 :: x69 :: x70 :: x71 :: x72 :: x73 :: x74 :: x75 :: x76 :: x77 :: x78 :: x79 :: x80 :: x81 :: x82 :: x83 :: x84 :: x85 :: x86 :: x87 :: x88 :: x89 :: x90 :: x91 :: x92 :: x93 :: x94 :: x95 :: x96 :: x97 :: x98 :: x99 :: x100 :: x101 :: x102 :: x103 :: x104 :: x105 :: x106 :: x107 :: x108 :: x109 :: x110 :: x111 :: x112 :: x113 :: x114 :: x115 :: x116 :: x117 :: x118 :: x119 :: x120 :: x121 :: x122 :: x123 :: x124 :: x125 :: x126 :: x127 :: x128 :: x129 :: x130 :: x131 :: x132 :: x133 :: x134 :: x135 :: x136 :: x137 :: x138 :: x139 :: x140 :: x141 :: x142 :: x143 :: x144 :: x145 :: x146 :: x147 :: x148 :: x149 :: x150 :: x151 :: x152 :: x153 :: x154 :: x155 :: x156 :: x157 :: x158 :: x159 :: x160 :: x161 :: x162 :: x163 :: x164 :: x165 :: x166 :: x167 :: x168 :: x169 :: x170 :: x171 :: x172 :: x173 :: x174 :: x175 :: x176 :: x177 :: x178 :: x179 :: x180 :: x181 :: x182 :: x183 :: x184 :: x185 :: x186 :: x187 :: x188 :: x189 :: x190 :: x191 :: x192 :: x193 :: x194 :: x195 :: x196 :: x197 :: x198 :: x199 :: x200 :: x201 :: x202 :: x203 :: x204 :: x205 :: x206 :: x207 :: x208 :: x209 :: x210 :: x211 :: x212 :: x213 :: x214 :: x215 :: x216 :: x217 :: x218 :: x219 :: []), defers := [] } W := by
  obtain ⟨q1, q2, q3, q4, q5, q6, q7, q8, q9⟩ := HE
  have e0 : smTail = .seq sm1 (.seq sm2 sm3) := by kernel_rfl
  rw [e0]
  refine wp_seq (sm1_any B A0 n c f g T a m b mid i e hn w W D hr hB ⟨q2, q4, q6, q7⟩ _ _ ?_)
  intro y25 y26 y27 y28 y29 y30 y31 y32 y33 y34 y35 y36 y37 y38 y39 y40 y41 y42 y43 y44 y45 y46 y47 y48 y49 y50 y51 y52 y53 y54 y55 y56 y57 y58 y59 y60 y61 y62 y63 y64 y65 y66 y67 y68 y69 y70 y71 y72 y73 y74 y75 y76 y77 y78 y79 y80 y81 y82 y83 y84 y85 y86 y87 y88 y89 y90 y91 y92 y93 y94 y95 y96 y97 y98 y99 y100 y101 y102 y103 y104 y105 y106 y107 y108 y109 y110 y111 y112 y113 y114 y115 y116 y117 y118 y119 y120 y121 y122 y123 y124 y125 y126 y127 y128 y129 y130 y131 y132 y133 y134 y135 y136 y137 y138 y139 y140 y141 y142 y143 y144 y145 y146 y147 y148 y149 y150 y151 y152 y153 y154 y155 y156 y157 y158 y159 y160 y161 y162 y163 y164 y165 y166 y167 y168 y169 y170 y171 y172 y173 y174 y175 y176 y177 y178 y179 y180 y181 y182 y183 y184 y185 y186 y187 y188 y189 y190 y191 y192 y193 y194 y195 y196 y197 y198 y199 y200 y201 y202 y203 y204 y205 y206 y207 y208 y209 y210 y211 y212 y213 y214 y215 y216 y217 y218 y219 W1 hr1 hB1
  refine wp_seq (sm2_any B A0 n c f g T a m b mid i e hn w W1 (rotD D i m e) hr1 hB1 ih hM ⟨q1, q3, q9, q7⟩ _ _ ?_)
  rintro y25 y26 y27 y28 y29 y30 y31 y32 y33 y34 y35 y36 y37 y38 y39 y40 y41 y42 y43 y44 y45 y46 y47 y48 y49 y50 y51 y52 y53 y54 y55 y56 y57 y58 y59 y60 y61 y62 y63 y64 y65 y66 y67 y68 y69 y70 y71 y72 y73 y74 y75 y76 y77 y78 y79 y80 y81 y82 y83 y84 y85 y86 y87 y88 y89 y90 y91 y92 y93 y94 y95 y96 y97 y98 y99 y100 y101 y102 y103 y104 y105 y106 y107 y108 y109 y110 y111 y112 y113 y114 y115 y116 y117 y118 y119 y120 y121 y122 y123 y124 y125 y126 y127 y128 y129 y130 y131 y132 y133 y134 y135 y136 y137 y138 y139 y140 y141 y142 y143 y144 y145 y146 y147 y148 y149 y150 y151 y152 y153 y154 y155 y156 y157 y158 y159 y160 y161 y162 y163 y164 y165 y166 y167 y168 y169 y170 y171 y172 y173 y174 y175 y176 y177 y178 y179 y180 y181 y182 y183 y184 y185 y186 y187 y188 y189 y190 y191 y192 y193 y194 y195 y196 y197 y198 y199 y200 y201 y202 y203 y204 y205 y206 y207 y208 y209 y210 y211 y212 y213 y214 y215 y216 y217 y218 y219 W2 ⟨D2, hr2, hp2, hs2, hB2⟩
  have hs6 : Srt T D2 mid e ∧ Srt T D2 e b ∧ LR D2 mid e b := ⟨hM.s3.prm hp2 (.inl (Nat.le_refl _)), hM.s4.prm hp2 (.inl q5), fun x y h1 h2 h3 h4 => by
    rw [hp2.out x (by omega), hp2.out y (by omega)]
    exact hM.l2 x y h1 h2 h3 h4⟩
  refine sm3_any B A0 n c f g T a m b mid i e hn w W2 D2 hr2 hB2 ih hs6 ⟨q8, q5, q6, q7⟩ _ ?_
  rintro y25 y26 y27 y28 y29 y30 y31 y32 y33 y34 y35 y36 y37 y38 y39 y40 y41 y42 y43 y44 y45 y46 y47 y48 y49 y50 y51 y52 y53 y54 y55 y56 y57 y58 y59 y60 y61 y62 y63 y64 y65 y66 y67 y68 y69 y70 y71 y72 y73 y74 y75 y76 y77 y78 y79 y80 y81 y82 y83 y84 y85 y86 y87 y88 y89 y90 y91 y92 y93 y94 y95 y96 y97 y98 y99 y100 y101 y102 y103 y104 y105 y106 y107 y108 y109 y110 y111 y112 y113 y114 y115 y116 y117 y118 y119 y120 y121 y122 y123 y124 y125 y126 y127 y128 y129 y130 y131 y132 y133 y134 y135 y136 y137 y138 y139 y140 y141 y142 y143 y144 y145 y146 y147 y148 y149 y150 y151 y152 y153 y154 y155 y156 y157 y158 y159 y160 y161 y162 y163 y164 y165 y166 y167 y168 y169 y170 y171 y172 y173 y174 y175 y176 y177 y178 y179 y180 y181 y182 y183 y184 y185 y186 y187 y188 y189 y190 y191 y192 y193 y194 y195 y196 y197 y198 y199 y200 y201 y202 y203 y204 y205 y206 y207 y208 y209 y210 y211 y212 y213 y214 y215 y216 y217 y218 y219 W3 ⟨D3, hr3, hp3, hs3, hB3⟩
  have hp9 : Prm D D3 a b := (((Prm.rot D i m e q2 q4).wide q1 q6).trans (hp2.wide (Nat.le_refl _) (by omega))).trans (hp3.wide (by omega) (Nat.le_refl _))
  have hs9 := hM.done hp2 hs2 hp3 hs3
  go_end0
  exact ⟨rfl, D3, hr3, hp9, hs9, hB3⟩

end Go.Proofs.Ytmmggalcebepeaa
