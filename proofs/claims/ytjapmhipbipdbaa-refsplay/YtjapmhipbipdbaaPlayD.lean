/-
  An arm of RefsPlay's switch: pushing.
-/
import Derived.Test.YtjapmhipbipdbaaPlayA
namespace Go.Proofs.Ytjapmhipbipdbaa
open Go Go.RowKit

set_option maxHeartbeats 40000000 in
set_option maxRecDepth 1000000 in
theorem sw_push1 {W : World} {R n S Sb a j m capm : Nat} {F : Nat → Prop} {P : Int → Option Int} {T : Nat → List Int} {adm : Option Addr} {cs : List (Int × Int)} {A : Nat → Option Addr} {C : Nat → Nat} {wc : World} {x0 x1 x2 : Int} {bb : Bool} (hC : SwC W R n S Sb a j m capm F P T adm cs A C wc x0 x1 x2 bb true) (hQ : ¬ x0 ≤ 1 ∧ decide (x0 ≤ 1) = false ∧ ¬ x0 = 2 ∧ (x0 == 2) = false ∧ decide (x0 = 2) = false ∧ x0 ≤ 4 ∧ decide (x0 ≤ 4) = true) : SwAt W R n S Sb a j x0 x1 x2 (.slice adm cs.length capm) bb true wc := by
  unfold SwAt
  intro c0 c1 c2 c3 u4 c9 u14 u15 u16 u17 c18 c19 c20 c21 c22 c23 c24 c25 c26 c27 c28 c29 c30 c31 c32 c33 c34 c35 c36 c37 c38 c39 c40 c41 c42 c43 c44 c45 c46 c47 c48 c49 c50 c51 c52 c53 c54 c55 c56 c57 c58 c59 c60 c61 c62 c63 c64 c65 c66 c67 c68 c69 c70 c71 c72 c73 c74 c75 c76 c77 c78 u79 u80 u81 u82 u83 u84 u85 u86 u87 u88 u89 u90 u91 u92 u93 u94 u95 u96 u97 u98 u99 u100 u101 u102 u103 u104 u105 u106 u107 u108 u109 u110 u111 u112 u113 u114 u115 u116 u117 u118 u119 u120 u121 u122 u123 u124 u125 u126 u127 u128 u129 u130 u131 u132 u133 u134 u135 u136 u137 u138 u139 u140 u141 u142 u143 u144 u145 u146 u147 u148 u149 u150 u151 u152 u153 u154 u155 u156 u157 u158 u159 u160 u161 u162 u163 u164 u165 u166 u167 u168 u169 u170 u171 u172 u173 u174 u175 u176 u177 u178 u179 u180 u181 u182 u183 u184 u185 u186 u187 u188 u189 u190 u191 u192 u193 u194 u195 u196 u197 u198 u199 u200 u201 u202 u203 u204 u205 u206 u207 u208 u209 u210 u211 u212 u213 u214 u215 u216 u217 u218 u219 u220 u221 u222 u223 u224 u225 u226 u227 u228 u229 u230 u231 u232 u233 u234 u235 u236 c237 c238 c239 c240 c241 c242 c243 c244 c245 c246 c247 c248 c249 c250 c251 c252 J K' K1 K2 K3 B0 hJ kept
  conv => arg 2; whnf
  obtain ⟨gdA, hj100, hx2, hcsl, hn0, hn4', spA, hale, sqA, hsA, hinA, bxA⟩ := hC
  obtain ⟨q1, q1b, q2, q2b, q2d, q3, q3b⟩ := hQ
  obtain ⟨d0, d1, d2⟩ := box0 hsA.out
  have hin := of_decide_eq_true (show isIn n x1 = true from hinA.out.symm)
  obtain ⟨i, rfl⟩ : ∃ i : Nat, x1 = (i : Int) := ⟨x1.toNat, by omega⟩
  have hi : i < n := by omega
  have hiz : (i : Int) < (n : Int) := hin.2
  have hTl : (T i).length + 1 ≤ 1000000 := by have := gdA.out.deepT i hi; omega
  have K := sqA.out.has.push i hi x2 hTl
  clear hin
  go_upto_region 45 with (go_at_call 10; refine K.mono ?_; clear K; rintro e w6 ⟨rfl, F6, h6, m6⟩; have sq6 : Aside (Sq W w6 R F6 P m n (up T i (T i ++ [x2])) adm capm cs S A C T) := sqA.out.call m6 h6; clear h6)
  have hs6A : Aside (w6.heap[Sb]? = some (.cells (stepC x0 (i : Int) x2) 31 (0, 0))) := (m6.went.block Sb bxA.out.1 bxA.out.2.1).trans hsA.out
  have own := sq6.out.stk.own i hi
  have ownD : OwnH (w6.alloc (.cells #[hV x2] 29)).drew (A i) (C i) (T i) := own.kept fun b hb => Below.heap_alloc _ _ _ (own.block b hb)
  obtain ⟨g, cap', w7, hr, o7, b7, hg7⟩ := run_app ownD w6.heap.size x2 (MapKept.heap_alloc w6 _).1 hTl
  have hw7 : Went (At (A i)) w6 w7 := (Went.new _ w6 _).drew.trans b7
  have hku : ∀ u : World, Went (At (A i)) w6 u → u.heap[Sb]? = some (.cells (stepC x0 (i : Int) x2) 31 (0, 0)) ∧ u.cell? ⟨S, i, none⟩ = some (.slice (A i) (T i).length (C i)) := fun u hu => by
    have bx := sq6.out.box hs6A.out
    have e2 : u.heap[S]? = w6.heap[S]? := hu.block S (sq6.out.stk.row.lt) (sq6.out.stk.ne hi)
    exact ⟨(hu.block Sb bx.1 fun h => bx.2.2.2 (.inr ⟨i, hi, h⟩)).trans hs6A.out, (World.cell?_of_block e2).trans (sq6.out.stk.slice hi)⟩
  obtain ⟨t1, t2⟩ := (box0 hs6A.out).2
  have t3 := sq6.out.stk.slice hi
  obtain ⟨t4, t5⟩ := (box0 (hku (w6.alloc (.cells #[hV x2] 29)).drew (Went.new _ w6 _).drew).1).2
  have t6 := (hku (w6.alloc (.cells #[hV x2] 29)).drew (Went.new _ w6 _).drew).2
  obtain ⟨t7, t8⟩ := (box0 (hku w7 hw7).1).2
  have t9 := (hku w7 hw7).2
  have g3 : w7.frozen? ⟨S, i, none⟩ = false := (World.frozen?_of_block (hw7.block S (sq6.out.stk.row.lt) (sq6.out.stk.ne hi))).trans (sq6.out.stk.free i)
  have hgA7 : At (A i) g ∨ w6.heap.size ≤ g := by
    rcases hg7 with h1 | h1
    · exact .inl h1
    · right
      rw [h1]
      simp [World.drew]
  have fin : Aside (Nx W R n S Sb x0 (i : Int) x2 (j + 1) (.slice adm cs.length capm) (w7.setCell ⟨S, i, none⟩ (.slice (some ⟨g, 0, none⟩) ((T i).length + 1) cap'))) := by
    have s1 := sq6.out.stk.turn hi hw7 o7 (fun k hk => by
      obtain ⟨a, ha, rfl⟩ := hk
      cases ha
      exact hgA7)
    have e : (T i ++ [x2]).length = (T i).length + 1 := by simp
    rw [e] at s1
    have b2 : Went (Fs S n A) w6 (w7.setCell ⟨S, i, none⟩ (.slice (some ⟨g, 0, none⟩) ((T i).length + 1) cap')) := (hw7.wider fun k hk => .inr ⟨i, hi, hk⟩).trans (Went.set (.inl rfl) _ _)
    refine nx_stk sq6.out b2 s1 (fun b hb => ?_) (gdA.out.stack (fun x hx => ?_) (by have := gdA.out.deepT i hi; rw [e]; omega)) hs6A.out
    · rcases hb with h1 | ⟨k, hk, hb⟩
      · exact .inl (.inl h1)
      · by_cases e : k = i
        · subst e
          rw [up_same] at hb
          obtain ⟨a, ha, rfl⟩ := hb
          cases ha
          exact hgA7.imp (fun h => .inr ⟨k, hk, h⟩) id
        · rw [up_other _ _ e] at hb
          exact .inl (.inr ⟨k, hk, hb⟩)
    · rcases List.mem_append.1 hx with h1 | h1
      · exact .inl h1
      · right
        rw [List.mem_singleton.1 h1]
        exact hx2.1
  clear hg7 own ownD b7 hgA7 o7 hw7 hku
  go_region_law (refine step_app rfl (.tmp 231) (.tmp 234) rfl _ _ _ (by simp [Act.eval]) (by simp [Act.eval]) hr ?_)
  all_goals
    go_wp2
    go_meet
    case rel => exact fin
set_option maxHeartbeats 40000000 in
set_option maxRecDepth 1000000 in
theorem sw_push0 {W : World} {R n S Sb a j m capm : Nat} {F : Nat → Prop} {P : Int → Option Int} {T : Nat → List Int} {adm : Option Addr} {cs : List (Int × Int)} {A : Nat → Option Addr} {C : Nat → Nat} {wc : World} {x0 x1 x2 : Int} {bb : Bool} (hC : SwC W R n S Sb a j m capm F P T adm cs A C wc x0 x1 x2 bb false) (hQ : ¬ x0 ≤ 1 ∧ decide (x0 ≤ 1) = false ∧ ¬ x0 = 2 ∧ (x0 == 2) = false ∧ decide (x0 = 2) = false ∧ x0 ≤ 4 ∧ decide (x0 ≤ 4) = true) : SwAt W R n S Sb a j x0 x1 x2 (.slice adm cs.length capm) bb false wc := by
  unfold SwAt
  intro c0 c1 c2 c3 u4 c9 u14 u15 u16 u17 c18 c19 c20 c21 c22 c23 c24 c25 c26 c27 c28 c29 c30 c31 c32 c33 c34 c35 c36 c37 c38 c39 c40 c41 c42 c43 c44 c45 c46 c47 c48 c49 c50 c51 c52 c53 c54 c55 c56 c57 c58 c59 c60 c61 c62 c63 c64 c65 c66 c67 c68 c69 c70 c71 c72 c73 c74 c75 c76 c77 c78 u79 u80 u81 u82 u83 u84 u85 u86 u87 u88 u89 u90 u91 u92 u93 u94 u95 u96 u97 u98 u99 u100 u101 u102 u103 u104 u105 u106 u107 u108 u109 u110 u111 u112 u113 u114 u115 u116 u117 u118 u119 u120 u121 u122 u123 u124 u125 u126 u127 u128 u129 u130 u131 u132 u133 u134 u135 u136 u137 u138 u139 u140 u141 u142 u143 u144 u145 u146 u147 u148 u149 u150 u151 u152 u153 u154 u155 u156 u157 u158 u159 u160 u161 u162 u163 u164 u165 u166 u167 u168 u169 u170 u171 u172 u173 u174 u175 u176 u177 u178 u179 u180 u181 u182 u183 u184 u185 u186 u187 u188 u189 u190 u191 u192 u193 u194 u195 u196 u197 u198 u199 u200 u201 u202 u203 u204 u205 u206 u207 u208 u209 u210 u211 u212 u213 u214 u215 u216 u217 u218 u219 u220 u221 u222 u223 u224 u225 u226 u227 u228 u229 u230 u231 u232 u233 u234 u235 u236 c237 c238 c239 c240 c241 c242 c243 c244 c245 c246 c247 c248 c249 c250 c251 c252 J K' K1 K2 K3 B0 hJ kept
  conv => arg 2; whnf
  obtain ⟨gdA, hj100, hx2, hcsl, hn0, hn4', spA, hale, sqA, hsA, hinA, bxA⟩ := hC
  obtain ⟨q1, q1b, q2, q2b, q2d, q3, q3b⟩ := hQ
  obtain ⟨d0, d1, d2⟩ := box0 hsA.out
  have K := sqA.out.has.push0 x1 hinA.out.symm x2
  go_wp2_with (go_at_call 10; refine K.mono ?_; clear K; rintro e w6 ⟨rfl, e6⟩; subst e6)
  go_meet
  case rel => exact nx_same sqA.out gdA.out hsA.out
end Go.Proofs.Ytjapmhipbipdbaa
