/-
  An arm of RefsPlay's switch: protecting.
-/
import Derived.Test.YtjapmhipbipdbaaPlayA
namespace Go.Proofs.Ytjapmhipbipdbaa
open Go Go.RowKit

set_option maxHeartbeats 40000000 in
set_option maxRecDepth 1000000 in
theorem sw_prot1 {W : World} {R n S Sb a j m capm : Nat} {F : Nat → Prop} {P : Int → Option Int} {T : Nat → List Int} {adm : Option Addr} {cs : List (Int × Int)} {A : Nat → Option Addr} {C : Nat → Nat} {wc : World} {x0 x1 x2 : Int} {inn : Bool} (hC : SwC W R n S Sb a j m capm F P T adm cs A C wc x0 x1 x2 true inn) (hQ : x0 ≤ 1 ∧ decide (x0 ≤ 1) = true) : SwAt W R n S Sb a j x0 x1 x2 (.slice adm cs.length capm) true inn wc := by
  unfold SwAt
  intro c0 c1 c2 c3 u4 c9 u14 u15 u16 u17 c18 c19 c20 c21 c22 c23 c24 c25 c26 c27 c28 c29 c30 c31 c32 c33 c34 c35 c36 c37 c38 c39 c40 c41 c42 c43 c44 c45 c46 c47 c48 c49 c50 c51 c52 c53 c54 c55 c56 c57 c58 c59 c60 c61 c62 c63 c64 c65 c66 c67 c68 c69 c70 c71 c72 c73 c74 c75 c76 c77 c78 u79 u80 u81 u82 u83 u84 u85 u86 u87 u88 u89 u90 u91 u92 u93 u94 u95 u96 u97 u98 u99 u100 u101 u102 u103 u104 u105 u106 u107 u108 u109 u110 u111 u112 u113 u114 u115 u116 u117 u118 u119 u120 u121 u122 u123 u124 u125 u126 u127 u128 u129 u130 u131 u132 u133 u134 u135 u136 u137 u138 u139 u140 u141 u142 u143 u144 u145 u146 u147 u148 u149 u150 u151 u152 u153 u154 u155 u156 u157 u158 u159 u160 u161 u162 u163 u164 u165 u166 u167 u168 u169 u170 u171 u172 u173 u174 u175 u176 u177 u178 u179 u180 u181 u182 u183 u184 u185 u186 u187 u188 u189 u190 u191 u192 u193 u194 u195 u196 u197 u198 u199 u200 u201 u202 u203 u204 u205 u206 u207 u208 u209 u210 u211 u212 u213 u214 u215 u216 u217 u218 u219 u220 u221 u222 u223 u224 u225 u226 u227 u228 u229 u230 u231 u232 u233 u234 u235 u236 c237 c238 c239 c240 c241 c242 c243 c244 c245 c246 c247 c248 c249 c250 c251 c252 J K' K1 K2 K3 B0 hJ kept
  conv => arg 2; whnf
  obtain ⟨gdA, hj100, hx2, hcsl, hn0, hn4', spA, hale, sqA, hsA, hinA, bxA⟩ := hC
  obtain ⟨q1, q1b⟩ := hQ
  obtain ⟨d0, d1, d2⟩ := box0 hsA.out
  obtain ⟨xs, ys, v, hcs, hxl, hp⟩ := spA.out.yes
  have hP : P x2 = some v := (gdA.out.all.mem x2 v).1 (List.mem_of_getElem? hp)
  have hv := gdA.out.cnt _ _ hP
  have K := sqA.out.has.protect x2 v (by rw [hP]; rfl) (by omega) (by omega)
  have hcsA : Aside (cs = xs ++ (x2, v) :: ys ∧ xs.length = a ∧ cs[a]? = some (x2, v)) := ⟨hcs, hxl, hp⟩
  have ha : a < cs.length := spA.out.le.2 rfl
  have haz : (a : Int) < (cs.length : Int) := by omega
  obtain ⟨g, rfl⟩ := sqA.out.own.form (by omega)
  have hvA : Aside (1 ≤ v ∧ v ≤ (j : Int)) := hv
  have hv2 : v < 1000 := by omega
  have hv1 : 1 ≤ v := hv.1
  clear hP hcs hxl hp hv
  go_wp2_with (go_at_call 8; refine K.mono ?_; clear K; rintro e w6 ⟨rfl, F6, h6, m6⟩; have sq6 : Aside (Sq W w6 R F6 (at1 P x2 (some (v + 1))) (m + 1) n T (some ⟨g, 0, none⟩) capm cs S A C T) := sqA.out.call m6 h6; clear h6; obtain ⟨c3, c4⟩ := sq6.out.own.cells hcsA.out.2.2; simp only at c3 c4; have f4 := sq6.out.own.frozen (a * 2 + 1))
  go_meet
  case rel =>
    obtain ⟨e1, e2, _⟩ := hcsA.out
    have hcl := gdA.out.csl
    have h1 := gdA.out.all
    rw [e1] at h1 hcl
    exact nx_chg sq6.out e1 e2 (gdA.out.turned (by omega) (by have := hvA.out; omega) (h1.chg (v + 1)) (by have := gdA.out.few; omega) (by simp at hcl ⊢; omega)) ((m6.went.block Sb bxA.out.1 bxA.out.2.1).trans hsA.out)
set_option maxHeartbeats 40000000 in
set_option maxRecDepth 1000000 in
theorem sw_prot0 {W : World} {R n S Sb a j m capm : Nat} {F : Nat → Prop} {P : Int → Option Int} {T : Nat → List Int} {adm : Option Addr} {cs : List (Int × Int)} {A : Nat → Option Addr} {C : Nat → Nat} {wc : World} {x0 x1 x2 : Int} {inn : Bool} (hC : SwC W R n S Sb a j m capm F P T adm cs A C wc x0 x1 x2 false inn) (hQ : x0 ≤ 1 ∧ decide (x0 ≤ 1) = true) : SwAt W R n S Sb a j x0 x1 x2 (.slice adm cs.length capm) false inn wc := by
  unfold SwAt
  intro c0 c1 c2 c3 u4 c9 u14 u15 u16 u17 c18 c19 c20 c21 c22 c23 c24 c25 c26 c27 c28 c29 c30 c31 c32 c33 c34 c35 c36 c37 c38 c39 c40 c41 c42 c43 c44 c45 c46 c47 c48 c49 c50 c51 c52 c53 c54 c55 c56 c57 c58 c59 c60 c61 c62 c63 c64 c65 c66 c67 c68 c69 c70 c71 c72 c73 c74 c75 c76 c77 c78 u79 u80 u81 u82 u83 u84 u85 u86 u87 u88 u89 u90 u91 u92 u93 u94 u95 u96 u97 u98 u99 u100 u101 u102 u103 u104 u105 u106 u107 u108 u109 u110 u111 u112 u113 u114 u115 u116 u117 u118 u119 u120 u121 u122 u123 u124 u125 u126 u127 u128 u129 u130 u131 u132 u133 u134 u135 u136 u137 u138 u139 u140 u141 u142 u143 u144 u145 u146 u147 u148 u149 u150 u151 u152 u153 u154 u155 u156 u157 u158 u159 u160 u161 u162 u163 u164 u165 u166 u167 u168 u169 u170 u171 u172 u173 u174 u175 u176 u177 u178 u179 u180 u181 u182 u183 u184 u185 u186 u187 u188 u189 u190 u191 u192 u193 u194 u195 u196 u197 u198 u199 u200 u201 u202 u203 u204 u205 u206 u207 u208 u209 u210 u211 u212 u213 u214 u215 u216 u217 u218 u219 u220 u221 u222 u223 u224 u225 u226 u227 u228 u229 u230 u231 u232 u233 u234 u235 u236 c237 c238 c239 c240 c241 c242 c243 c244 c245 c246 c247 c248 c249 c250 c251 c252 J K' K1 K2 K3 B0 hJ kept
  conv => arg 2; whnf
  obtain ⟨gdA, hj100, hx2, hcsl, hn0, hn4', spA, hale, sqA, hsA, hinA, bxA⟩ := hC
  obtain ⟨q1, q1b⟩ := hQ
  obtain ⟨d0, d1, d2⟩ := box0 hsA.out
  obtain ⟨xs, ys, hcs, hxl, hlo, hhi⟩ := spA.out.no
  have hP : P x2 = none := (spA.out.tells gdA.out.all).elim (fun h => by cases h.1) (fun h => h.2)
  have K := sqA.out.has.protect x2 0 (by rw [hP]; rfl) (by omega) (by omega)
  rw [show (0 : Int) + 1 = 1 from rfl] at K
  have hcsA : Aside (cs = xs ++ ys ∧ xs.length = a ∧ (∀ p ∈ xs, p.1 < x2) ∧ (∀ p ∈ ys, x2 < p.1)) := ⟨hcs, hxl, hlo, hhi⟩
  clear hP hcs hxl hlo hhi
  go_upto_region 31 with (first
    | (go_at_call 8; refine K.mono ?_; clear K; rintro e w6 ⟨rfl, F6, h6, m6⟩; have sq6 : Aside (Sq W w6 R F6 (at1 P x2 (some 1)) (m + 1) n T adm capm cs S A C T) := sqA.out.call m6 h6; clear h6; have oc6 : OwnC (w6.alloc (.cells #[.int .u32 0, .int .i64 0] 33)) adm capm cs := sq6.out.own.kept fun k hk => Below.heap_alloc _ _ _ (sq6.out.own.block k hk))
    | (at_builtin; refine append_c oc6 w6.heap.size (0, 0) (MapKept.heap_alloc w6 _).1 (by omega) rfl _ _ rfl rfl rfl ?_; intro g cap7 w7 o7 b7 hg7))
  have hs6 : w6.heap[Sb]? = some (.cells (stepC x0 x1 x2) 31 (0, 0)) := (m6.went.block Sb bxA.out.1 bxA.out.2.1).trans hsA.out
  have sq7 : Aside (Sq W w7 R F6 (at1 P x2 (some 1)) (m + 1) n T (some ⟨g, 0, none⟩) cap7 (cs ++ [(0, 0)]) S A C T) := (sq6.out.kept ((Below.refl _ w6).alloc (Nat.le_refl _) _)).owned b7 o7 (fun k hk => by obtain ⟨a, ha, rfl⟩ := hk; cases ha; exact hg7.imp id (fun e => Nat.le_of_eq e.symm))
  have hs6' : (w6.alloc (.cells #[.int .u32 0, .int .i64 0] 33)).heap[Sb]? = some (.cells (stepC x0 x1 x2) 31 (0, 0)) := (Below.heap_alloc _ _ _ (sq6.out.box hs6).1).trans hs6
  have bx6 := (sq6.out.kept ((Below.refl _ w6).alloc (Nat.le_refl _) (.cells #[.int .u32 0, .int .i64 0] 33))).box hs6'
  have hs7A : Aside (w7.heap[Sb]? = some (.cells (stepC x0 x1 x2) 31 (0, 0))) := (b7.block Sb bx6.1 bx6.2.2.1).trans hs6'
  have hcap := o7.max.2
  rw [List.length_append] at hcap
  simp only [List.length_cons, List.length_nil] at hcap
  clear hs6 hs6' bx6 oc6 o7 b7 hg7 sq6 m6
  have ha1 : a + 1 ≤ cs.length + 1 := by omega
  have ha1' : (a : Int) + 1 ≤ (cs.length : Int) + 1 := by omega
  have ha0' : (0 : Int) ≤ (a : Int) + 1 := by omega
  have han : ((a : Int) + 1).toNat = a + 1 := by omega
  have hwa : IntKind.i64.wrap ((a : Int) + 1) = (a : Int) + 1 := by rw [IntKind.wrap_i64]; omega
  have q3 : (a : Int) ≤ (cs.length : Int) := by omega
  have q5 : ¬ cap7 = a := by omega
  have q6 : (a : Int) ≤ (cs.length : Int) + 1 := by omega
  obtain ⟨D, hDD⟩ : ∃ D, (if cap7 = a + 1 then some (⟨g, 0, none⟩ : Addr) else some ⟨g, (a + 1) * 2, none⟩) = some D := by
    by_cases hcc : cap7 = a + 1
    · exact ⟨_, if_pos hcc⟩
    · exact ⟨_, if_neg hcc⟩
  have hcp : Aside (∃ w8 x, (∀ ty, (Builtin.copy_ #[26, 26] ty #[.slice (some D) (cs.length - a) (cap7 - (a + 1)), .slice (some ⟨g, a * 2, none⟩) (cs.length + 1 - a) (cap7 - a)]).run Try.prog w7.drew = .ok (goInt ((cs.length - a : Nat) : Int)) w8) ∧ OwnC w8 (some ⟨g, 0, none⟩) cap7 (xs ++ x :: ys) ∧ Went (At (some ⟨g, 0, none⟩)) w7 w8) := by
    obtain ⟨e1, e2, _⟩ := hcsA.out
    have o7 := sq7.out.own
    rw [e1] at o7
    have hcl : cs.length = xs.length + ys.length := by rw [e1]; simp
    obtain ⟨w8, x, r1, r2, r3⟩ := copy_c (w := w7.drew) (D := D) (a := a) (n1 := cs.length - a) (n2 := cs.length + 1 - a) (c1 := cap7 - (a + 1)) (c2 := cap7 - a) (show OwnC w7.drew _ _ _ from o7.kept fun _ _ => rfl) e2 (fun h => by
      rw [if_neg (by omega)] at hDD
      exact (Option.some.inj hDD).symm) (by omega) (by omega)
    exact ⟨w8, x, r1, r2, r3.undrew⟩
  go_cut [161] from 154 to 161 (fun _ w => Aside (∃ x, Sq W w R F6 (at1 P x2 (some 1)) (m + 1) n T (some ⟨g, 0, none⟩) cap7 (xs ++ x :: ys) S A C T ∧ w.heap[Sb]? = some (.cells (stepC x0 x1 x2) 31 (0, 0))))
  case first =>
    obtain ⟨w8, x, r1, o8, b8⟩ := hcp.out
    have fin : Aside (∃ x, Sq W w8 R F6 (at1 P x2 (some 1)) (m + 1) n T (some ⟨g, 0, none⟩) cap7 (xs ++ x :: ys) S A C T ∧ w8.heap[Sb]? = some (.cells (stepC x0 x1 x2) 31 (0, 0))) := ⟨x, sq7.out.owned b8 o8 (fun k hk => .inl hk), (b8.block Sb (sq7.out.box hs7A.out).1 (sq7.out.box hs7A.out).2.2.1).trans hs7A.out⟩
    clear o8 b8
    go_region_law (refine step_copy rfl (.tmp 157) (.tmp 160) rfl _ _ _ (by simp [Act.eval, Act.put]) (by simp [Act.eval, Act.put]) (r1 _) ?_)
    all_goals
      go_wp2_with fail
      go_meet
      exact fin
  case rest =>
    obtain ⟨x, sq8, hs8⟩ := hcut.out
    obtain ⟨e0, e1, e2⟩ := box0 hs8
    obtain ⟨y0, y1⟩ := x
    have hsp : (xs ++ (y0, y1) :: ys)[a]? = some (y0, y1) := by rw [← hcsA.out.2.1]; simp
    obtain ⟨c3, c4⟩ := sq8.own.cells hsp
    simp only at c3 c4
    have f3 := sq8.own.frozen (a * 2)
    have f4 := sq8.own.frozen (a * 2 + 1)
    have sq8A : Aside (Sq W wc R F6 (at1 P x2 (some 1)) (m + 1) n T (some ⟨g, 0, none⟩) cap7 (xs ++ (y0, y1) :: ys) S A C T) := sq8
    have hs8A : Aside (wc.heap[Sb]? = some (.cells (stepC x0 x1 x2) 31 (0, 0))) := hs8
    have haL : (a : Int) < (cs.length : Int) + 1 := by omega
    have haL2 : a < cs.length + 1 := by omega
    clear hcut sq8 hs8 hsp
    go_wp2
    go_meet
    case rel =>
      obtain ⟨e1, e2, e3, e4⟩ := hcsA.out
      have hcl := gdA.out.csl
      have h1 := gdA.out.all
      rw [e1] at h1
      have hcl2 : cs.length = xs.length + ys.length := by rw [e1]; simp
      exact nx_put sq8A.out e2 (by omega) (gdA.out.turned (by omega) (by omega) (h1.ins e3 e4 1) (by have := gdA.out.few; omega) (by simp; omega)) hs8A.out
end Go.Proofs.Ytjapmhipbipdbaa
