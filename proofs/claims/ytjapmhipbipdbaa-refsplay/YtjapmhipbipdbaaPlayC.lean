/-
  An arm of RefsPlay's switch: unprotecting.
-/
import Derived.Test.YtjapmhipbipdbaaPlayA
namespace Go.Proofs.Ytjapmhipbipdbaa
open Go Go.RowKit

set_option maxHeartbeats 40000000 in
set_option maxRecDepth 1000000 in
theorem sw_unp1 {W : World} {R n S Sb a j m capm : Nat} {F : Nat → Prop} {P : Int → Option Int} {T : Nat → List Int} {adm : Option Addr} {cs : List (Int × Int)} {A : Nat → Option Addr} {C : Nat → Nat} {wc : World} {x1 x2 : Int} {inn : Bool} (hC : SwC W R n S Sb a j m capm F P T adm cs A C wc 2 x1 x2 true inn) (hQ : ¬ (2 : Int) ≤ 1 ∧ decide ((2 : Int) ≤ 1) = false) : SwAt W R n S Sb a j 2 x1 x2 (.slice adm cs.length capm) true inn wc := by
  unfold SwAt
  intro c0 c1 c2 c3 u4 c9 u14 u15 u16 u17 c18 c19 c20 c21 c22 c23 c24 c25 c26 c27 c28 c29 c30 c31 c32 c33 c34 c35 c36 c37 c38 c39 c40 c41 c42 c43 c44 c45 c46 c47 c48 c49 c50 c51 c52 c53 c54 c55 c56 c57 c58 c59 c60 c61 c62 c63 c64 c65 c66 c67 c68 c69 c70 c71 c72 c73 c74 c75 c76 c77 c78 u79 u80 u81 u82 u83 u84 u85 u86 u87 u88 u89 u90 u91 u92 u93 u94 u95 u96 u97 u98 u99 u100 u101 u102 u103 u104 u105 u106 u107 u108 u109 u110 u111 u112 u113 u114 u115 u116 u117 u118 u119 u120 u121 u122 u123 u124 u125 u126 u127 u128 u129 u130 u131 u132 u133 u134 u135 u136 u137 u138 u139 u140 u141 u142 u143 u144 u145 u146 u147 u148 u149 u150 u151 u152 u153 u154 u155 u156 u157 u158 u159 u160 u161 u162 u163 u164 u165 u166 u167 u168 u169 u170 u171 u172 u173 u174 u175 u176 u177 u178 u179 u180 u181 u182 u183 u184 u185 u186 u187 u188 u189 u190 u191 u192 u193 u194 u195 u196 u197 u198 u199 u200 u201 u202 u203 u204 u205 u206 u207 u208 u209 u210 u211 u212 u213 u214 u215 u216 u217 u218 u219 u220 u221 u222 u223 u224 u225 u226 u227 u228 u229 u230 u231 u232 u233 u234 u235 u236 c237 c238 c239 c240 c241 c242 c243 c244 c245 c246 c247 c248 c249 c250 c251 c252 J K' K1 K2 K3 B0 hJ kept
  conv => arg 2; whnf
  obtain ⟨gdA, hj100, hx2, hcsl, hn0, hn4', spA, hale, sqA, hsA, hinA, bxA⟩ := hC
  obtain ⟨q1, q1b⟩ := hQ
  obtain ⟨d0, d1, d2⟩ := box0 hsA.out
  obtain ⟨xs, ys, v, hcs, hxl, hp⟩ := spA.out.yes
  have hP : P x2 = some v := (gdA.out.all.mem x2 v).1 (List.mem_of_getElem? hp)
  have hv := gdA.out.cnt _ _ hP
  have ha : a < cs.length := spA.out.le.2 rfl
  have haz : (a : Int) < (cs.length : Int) := by omega
  obtain ⟨g, rfl⟩ := sqA.out.own.form (by omega)
  by_cases hv1 : v = 1
  · subst hv1
    have K := sqA.out.has.unprotect1 x2 (by rw [hP]; rfl)
    have hcsA : Aside (cs = xs ++ (x2, 1) :: ys ∧ xs.length = a ∧ cs[a]? = some (x2, 1)) := ⟨hcs, hxl, hp⟩
    clear hP hcs hxl hp hv
    go_upto_region 40 with (go_at_call 9; refine K.mono ?_; clear K; rintro e w6 ⟨rfl, h6, m6⟩; have sq6 : Aside (Sq W w6 R F (at1 P x2 none) m n T (some ⟨g, 0, none⟩) capm cs S A C T) := sqA.out.call m6 h6; clear h6; obtain ⟨c3, c4⟩ := sq6.out.own.cells hcsA.out.2.2; simp only at c3 c4; have f4 := sq6.out.own.frozen (a * 2 + 1))
    have hs6A : Aside (w6.heap[Sb]? = some (.cells (stepC 2 x1 x2) 31 (0, 0))) := (m6.went.block Sb bxA.out.1 bxA.out.2.1).trans hsA.out
    have hcap := sq6.out.own.max.2
    have ha1 : a + 1 ≤ cs.length := ha
    have ha1' : (a : Int) + 1 ≤ (cs.length : Int) := by omega
    have ha0' : (0 : Int) ≤ (a : Int) + 1 := by omega
    have han : ((a : Int) + 1).toNat = a + 1 := by omega
    have hwa : IntKind.i64.wrap ((a : Int) + 1) = (a : Int) + 1 := by rw [IntKind.wrap_i64]; omega
    have hac : a ≤ capm := by omega
    obtain ⟨D, hDD⟩ : ∃ D, (if capm = a + 1 then some (⟨g, 0, none⟩ : Addr) else some ⟨g, (a + 1) * 2, none⟩) = some D := by
      by_cases hcc : capm = a + 1
      · exact ⟨_, if_pos hcc⟩
      · exact ⟨_, if_neg hcc⟩
    have fin : Aside (∃ ad1 cap1 w7 ad2 cap2 w8, (Builtin.append_ #[26, 26] 26 #[.slice none 0 0, .slice (some ⟨g, 0, none⟩) a capm]).run Try.prog (w6.setCell ⟨g, a * 2 + 1, none⟩ (.int .i64 0)).drew = .ok (.slice ad1 a cap1) w7 ∧ (Builtin.append_ #[26, 26] 26 #[.slice ad1 a cap1, .slice (some D) (cs.length - (a + 1)) (capm - (a + 1))]).run Try.prog w7 = .ok (.slice ad2 (cs.length - 1) cap2) w8 ∧ Nx W R n S Sb 2 x1 x2 (j + 1) (.slice ad2 (cs.length - 1) cap2) w8) := by
      obtain ⟨e1, e2, _⟩ := hcsA.out
      have hcl : cs.length = xs.length + ys.length + 1 := by rw [e1]; simp; omega
      have hl := gdA.out.csl
      have o6 := sq6.out.own
      rw [e1] at o6
      have r := o6.setN (v' := 0) e2
      obtain ⟨ad1, cap1, w7, ad2, cap2, w8, r1, r2, o8, n8, b8⟩ := del_c (w := (w6.setCell ⟨g, a * 2 + 1, none⟩ (.int .i64 0)).drew) (A := D) (a := a) (n1 := cs.length - (a + 1)) (n2 := cs.length - 1) (c := capm - (a + 1)) (r.1.kept fun _ _ => rfl) e2 (fun h => by
        rw [if_neg (by omega)] at hDD
        exact (Option.some.inj hDD).symm) (by omega) (by omega) (by omega)
      have h1 := gdA.out.all
      rw [e1] at h1
      exact ⟨ad1, cap1, w7, ad2, cap2, w8, r1, r2, nx_del sq6.out r.2.drew b8 o8 n8 (by rw [hcl]; simp) (gdA.out.gone h1.rem (by simp; omega)) hs6A.out⟩
    obtain ⟨ad1, cap1, w7, ad2, cap2, w8, r1, r2, fin⟩ := fin.out
    have finA : Aside (Nx W R n S Sb 2 x1 x2 (j + 1) (.slice ad2 (cs.length - 1) cap2) w8) := fin
    clear fin
    go_region_law (first | (refine step_appC rfl (.const (.slice none 0 0)) (.tmp 204) rfl _ _ _ (by simp [Act.eval]) (by simp [Act.eval, Act.put]) r1 ?_) | (refine step_appC rfl (.tmp 205) (.tmp 209) rfl _ _ _ (by simp [Act.eval]) (by simp [Act.eval]) r2 ?_))
    all_goals
      go_wp2
      go_meet
      case rel => exact finA
  · have K := sqA.out.has.unprotect x2 v (by rw [hP]; rfl) (by omega) (by omega)
    have hcsA : Aside (cs = xs ++ (x2, v) :: ys ∧ xs.length = a ∧ cs[a]? = some (x2, v)) := ⟨hcs, hxl, hp⟩
    have hvA : Aside (1 < v ∧ v ≤ (j : Int)) := ⟨by omega, hv.2⟩
    have hv2 : v < 1000 := by omega
    have hv3 : 1 < v := by omega
    have hv0 : ¬ v - 1 = 0 := by omega
    have hv0b : (v - 1 == 0) = false := by simp; omega
    clear hP hcs hxl hp hv hv1
    go_wp2_with (go_at_call 9; refine K.mono ?_; clear K; rintro e w6 ⟨rfl, h6, m6⟩; have sq6 : Aside (Sq W w6 R F (at1 P x2 (some (v - 1))) (m + 1) n T (some ⟨g, 0, none⟩) capm cs S A C T) := sqA.out.call m6 h6; clear h6; obtain ⟨c3, c4⟩ := sq6.out.own.cells hcsA.out.2.2; simp only at c3 c4; have f4 := sq6.out.own.frozen (a * 2 + 1))
    go_meet
    case rel =>
      obtain ⟨e1, e2, _⟩ := hcsA.out
      have hcl := gdA.out.csl
      have h1 := gdA.out.all
      rw [e1] at h1 hcl
      exact nx_chg sq6.out e1 e2 (gdA.out.turned (by omega) (by have := hvA.out; omega) (h1.chg (v - 1)) (by have := gdA.out.few; omega) (by simp at hcl ⊢; omega)) ((m6.went.block Sb bxA.out.1 bxA.out.2.1).trans hsA.out)
set_option maxHeartbeats 40000000 in
set_option maxRecDepth 1000000 in
theorem sw_unp0 {W : World} {R n S Sb a j m capm : Nat} {F : Nat → Prop} {P : Int → Option Int} {T : Nat → List Int} {adm : Option Addr} {cs : List (Int × Int)} {A : Nat → Option Addr} {C : Nat → Nat} {wc : World} {x1 x2 : Int} {inn : Bool} (hC : SwC W R n S Sb a j m capm F P T adm cs A C wc 2 x1 x2 false inn) (hQ : ¬ (2 : Int) ≤ 1 ∧ decide ((2 : Int) ≤ 1) = false) : SwAt W R n S Sb a j 2 x1 x2 (.slice adm cs.length capm) false inn wc := by
  unfold SwAt
  intro c0 c1 c2 c3 u4 c9 u14 u15 u16 u17 c18 c19 c20 c21 c22 c23 c24 c25 c26 c27 c28 c29 c30 c31 c32 c33 c34 c35 c36 c37 c38 c39 c40 c41 c42 c43 c44 c45 c46 c47 c48 c49 c50 c51 c52 c53 c54 c55 c56 c57 c58 c59 c60 c61 c62 c63 c64 c65 c66 c67 c68 c69 c70 c71 c72 c73 c74 c75 c76 c77 c78 u79 u80 u81 u82 u83 u84 u85 u86 u87 u88 u89 u90 u91 u92 u93 u94 u95 u96 u97 u98 u99 u100 u101 u102 u103 u104 u105 u106 u107 u108 u109 u110 u111 u112 u113 u114 u115 u116 u117 u118 u119 u120 u121 u122 u123 u124 u125 u126 u127 u128 u129 u130 u131 u132 u133 u134 u135 u136 u137 u138 u139 u140 u141 u142 u143 u144 u145 u146 u147 u148 u149 u150 u151 u152 u153 u154 u155 u156 u157 u158 u159 u160 u161 u162 u163 u164 u165 u166 u167 u168 u169 u170 u171 u172 u173 u174 u175 u176 u177 u178 u179 u180 u181 u182 u183 u184 u185 u186 u187 u188 u189 u190 u191 u192 u193 u194 u195 u196 u197 u198 u199 u200 u201 u202 u203 u204 u205 u206 u207 u208 u209 u210 u211 u212 u213 u214 u215 u216 u217 u218 u219 u220 u221 u222 u223 u224 u225 u226 u227 u228 u229 u230 u231 u232 u233 u234 u235 u236 c237 c238 c239 c240 c241 c242 c243 c244 c245 c246 c247 c248 c249 c250 c251 c252 J K' K1 K2 K3 B0 hJ kept
  conv => arg 2; whnf
  obtain ⟨gdA, hj100, hx2, hcsl, hn0, hn4', spA, hale, sqA, hsA, hinA, bxA⟩ := hC
  obtain ⟨q1, q1b⟩ := hQ
  obtain ⟨d0, d1, d2⟩ := box0 hsA.out
  have hP : P x2 = none := (spA.out.tells gdA.out.all).elim (fun h => by cases h.1) (fun h => h.2)
  have K := sqA.out.has.unprotect0 x2 (by rw [hP]; rfl)
  clear hP
  go_wp2_with (go_at_call 9; refine K.mono ?_; clear K; rintro e w6 ⟨rfl, e6⟩; subst e6)
  go_meet
  case rel => exact nx_same sqA.out gdA.out hsA.out
end Go.Proofs.Ytjapmhipbipdbaa
