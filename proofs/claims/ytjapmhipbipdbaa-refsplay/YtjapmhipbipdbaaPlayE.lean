/-
  An arm of RefsPlay's switch: popping, and all else.
-/
import Derived.Test.YtjapmhipbipdbaaPlayA
namespace Go.Proofs.Ytjapmhipbipdbaa
open Go Go.RowKit

set_option maxHeartbeats 40000000 in
set_option maxRecDepth 1000000 in
theorem sw_pop1 {W : World} {R n S Sb a j m capm : Nat} {F : Nat → Prop} {P : Int → Option Int} {T : Nat → List Int} {adm : Option Addr} {cs : List (Int × Int)} {A : Nat → Option Addr} {C : Nat → Nat} {wc : World} {x0 x1 x2 : Int} {bb : Bool} (hC : SwC W R n S Sb a j m capm F P T adm cs A C wc x0 x1 x2 bb true) (hQ : ¬ x0 ≤ 1 ∧ decide (x0 ≤ 1) = false ∧ ¬ x0 = 2 ∧ (x0 == 2) = false ∧ decide (x0 = 2) = false ∧ ¬ x0 ≤ 4 ∧ decide (x0 ≤ 4) = false) : SwAt W R n S Sb a j x0 x1 x2 (.slice adm cs.length capm) bb true wc := by
  unfold SwAt
  intro c0 c1 c2 c3 u4 c9 u14 u15 u16 u17 c18 c19 c20 c21 c22 c23 c24 c25 c26 c27 c28 c29 c30 c31 c32 c33 c34 c35 c36 c37 c38 c39 c40 c41 c42 c43 c44 c45 c46 c47 c48 c49 c50 c51 c52 c53 c54 c55 c56 c57 c58 c59 c60 c61 c62 c63 c64 c65 c66 c67 c68 c69 c70 c71 c72 c73 c74 c75 c76 c77 c78 u79 u80 u81 u82 u83 u84 u85 u86 u87 u88 u89 u90 u91 u92 u93 u94 u95 u96 u97 u98 u99 u100 u101 u102 u103 u104 u105 u106 u107 u108 u109 u110 u111 u112 u113 u114 u115 u116 u117 u118 u119 u120 u121 u122 u123 u124 u125 u126 u127 u128 u129 u130 u131 u132 u133 u134 u135 u136 u137 u138 u139 u140 u141 u142 u143 u144 u145 u146 u147 u148 u149 u150 u151 u152 u153 u154 u155 u156 u157 u158 u159 u160 u161 u162 u163 u164 u165 u166 u167 u168 u169 u170 u171 u172 u173 u174 u175 u176 u177 u178 u179 u180 u181 u182 u183 u184 u185 u186 u187 u188 u189 u190 u191 u192 u193 u194 u195 u196 u197 u198 u199 u200 u201 u202 u203 u204 u205 u206 u207 u208 u209 u210 u211 u212 u213 u214 u215 u216 u217 u218 u219 u220 u221 u222 u223 u224 u225 u226 u227 u228 u229 u230 u231 u232 u233 u234 u235 u236 c237 c238 c239 c240 c241 c242 c243 c244 c245 c246 c247 c248 c249 c250 c251 c252 J K' K1 K2 K3 B0 hJ kept
  conv => arg 2; whnf
  obtain ⟨gdA, hj100, hx2, hcsl, hn0, hn4', spA, hale, sqA, hsA, hinA, bxA⟩ := hC
  obtain ⟨q1, q1b, q2, q2b, q2d, q3, q3b⟩ := hQ
  obtain ⟨d0, d1, d2⟩ := box0 hsA.out
  have hin := of_decide_eq_true (show isIn n x1 = true from hinA.out.symm)
  obtain ⟨i, rfl⟩ : ∃ i : Nat, x1 = (i : Int) := ⟨x1.toNat, by omega⟩
  have hi : i < n := by omega
  have hiz : (i : Int) < (n : Int) := hin.2
  have hidx : max 0 (min (i : Int) ((n : Int) - 1)) = (i : Int) := by omega
  have hTl : (T i).length ≤ 100 := by have := gdA.out.deepT i hi; omega
  clear hin
  rcases List.eq_nil_or_concat (T i) with hT | ⟨zs, x, hT⟩
  · have hd : deep n T (i : Int) = 0 := by
      unfold deep
      rw [Int.toNat_natCast, hT]
      simp
    have K := sqA.out.has.pop0 (i : Int) hd
    have t3 := sqA.out.stk.slice hi
    rw [hT] at t3
    simp only [List.length_nil] at t3
    clear hd hT hTl
    go_wp2_with (go_at_call 11; refine K.mono ?_; clear K; rintro e w6 ⟨rfl, e6⟩; subst e6)
    go_meet
    case rel => exact nx_same sqA.out gdA.out hsA.out
  · rw [List.concat_eq_append] at hT
    have K := sqA.out.has.pop i hi zs x hT (by omega)
    have hTA : Aside (T i = zs ++ [x]) := hT
    have hl : (T i).length = zs.length + 1 := by rw [hT]; simp
    rw [hl] at hTl
    have hlA : Aside ((T i).length = zs.length + 1) := hl
    clear hT hl
    obtain ⟨l, hll⟩ : ∃ l, l = zs.length := ⟨_, rfl⟩
    rw [← hll] at hTl
    have hllA : Aside (l = zs.length) := hll
    clear hll
    have hz : ((l + 1 : Nat) : Int) - 1 = (l : Int) := by omega
    have hz2 : (l : Int) < ((l + 1 : Nat) : Int) := by omega
    go_upto_region 26 with (go_at_call 11; refine K.mono ?_; clear K; rintro e w6 ⟨rfl, h6, m6⟩; have sq6 : Aside (Sq W w6 R F P m n (up T i zs) adm capm cs S A C T) := sqA.out.call m6 h6; clear h6; have hs6A : Aside (w6.heap[Sb]? = some (.cells (stepC x0 (i : Int) x2) 31 (0, 0))) := (m6.went.block Sb bxA.out.1 bxA.out.2.1).trans hsA.out; obtain ⟨t1, t2⟩ := (box0 hs6A.out).2; obtain ⟨g2, t3, t4, t5, t6, t7⟩ := pop_facts sq6.out hi hTA.out hllA.out)
    have fin : Aside (Nx W R n S Sb x0 (i : Int) x2 (j + 1) (.slice adm cs.length capm) (w6.setCell ⟨S, i, none⟩ (.slice (some ⟨g2, 0, none⟩) l (C i))).drew) := nx_stk sq6.out (Went.set (.inl rfl) _ _).drew (t7.kept fun _ _ => rfl) (fun b hb => .inl hb) (gdA.out.stack (fun y hy => .inl (by rw [hTA.out]; exact List.mem_append_left _ hy)) (by have := gdA.out.deepT i hi; have := hlA.out; omega)) hs6A.out
    clear t7
    generalize C i = ci at t3 t6 fin
    go_region
    all_goals
      go_wp2
      go_meet
      case rel => exact fin
set_option maxHeartbeats 40000000 in
set_option maxRecDepth 1000000 in
theorem sw_pop0 {W : World} {R n S Sb a j m capm : Nat} {F : Nat → Prop} {P : Int → Option Int} {T : Nat → List Int} {adm : Option Addr} {cs : List (Int × Int)} {A : Nat → Option Addr} {C : Nat → Nat} {wc : World} {x0 x1 x2 : Int} {bb : Bool} (hC : SwC W R n S Sb a j m capm F P T adm cs A C wc x0 x1 x2 bb false) (hQ : ¬ x0 ≤ 1 ∧ decide (x0 ≤ 1) = false ∧ ¬ x0 = 2 ∧ (x0 == 2) = false ∧ decide (x0 = 2) = false ∧ ¬ x0 ≤ 4 ∧ decide (x0 ≤ 4) = false) : SwAt W R n S Sb a j x0 x1 x2 (.slice adm cs.length capm) bb false wc := by
  unfold SwAt
  intro c0 c1 c2 c3 u4 c9 u14 u15 u16 u17 c18 c19 c20 c21 c22 c23 c24 c25 c26 c27 c28 c29 c30 c31 c32 c33 c34 c35 c36 c37 c38 c39 c40 c41 c42 c43 c44 c45 c46 c47 c48 c49 c50 c51 c52 c53 c54 c55 c56 c57 c58 c59 c60 c61 c62 c63 c64 c65 c66 c67 c68 c69 c70 c71 c72 c73 c74 c75 c76 c77 c78 u79 u80 u81 u82 u83 u84 u85 u86 u87 u88 u89 u90 u91 u92 u93 u94 u95 u96 u97 u98 u99 u100 u101 u102 u103 u104 u105 u106 u107 u108 u109 u110 u111 u112 u113 u114 u115 u116 u117 u118 u119 u120 u121 u122 u123 u124 u125 u126 u127 u128 u129 u130 u131 u132 u133 u134 u135 u136 u137 u138 u139 u140 u141 u142 u143 u144 u145 u146 u147 u148 u149 u150 u151 u152 u153 u154 u155 u156 u157 u158 u159 u160 u161 u162 u163 u164 u165 u166 u167 u168 u169 u170 u171 u172 u173 u174 u175 u176 u177 u178 u179 u180 u181 u182 u183 u184 u185 u186 u187 u188 u189 u190 u191 u192 u193 u194 u195 u196 u197 u198 u199 u200 u201 u202 u203 u204 u205 u206 u207 u208 u209 u210 u211 u212 u213 u214 u215 u216 u217 u218 u219 u220 u221 u222 u223 u224 u225 u226 u227 u228 u229 u230 u231 u232 u233 u234 u235 u236 c237 c238 c239 c240 c241 c242 c243 c244 c245 c246 c247 c248 c249 c250 c251 c252 J K' K1 K2 K3 B0 hJ kept
  conv => arg 2; whnf
  obtain ⟨gdA, hj100, hx2, hcsl, hn0, hn4', spA, hale, sqA, hsA, hinA, bxA⟩ := hC
  obtain ⟨q1, q1b, q2, q2b, q2d, q3, q3b⟩ := hQ
  obtain ⟨d0, d1, d2⟩ := box0 hsA.out
  have hd : deep n T x1 = 0 := by
    unfold deep
    rw [← hinA.out]
    rfl
  have K := sqA.out.has.pop0 x1 hd
  clear hd
  go_wp2_with (go_at_call 11; refine K.mono ?_; clear K; rintro e w6 ⟨rfl, e6⟩; subst e6)
  go_meet
  case rel => exact nx_same sqA.out gdA.out hsA.out
end Go.Proofs.Ytjapmhipbipdbaa
