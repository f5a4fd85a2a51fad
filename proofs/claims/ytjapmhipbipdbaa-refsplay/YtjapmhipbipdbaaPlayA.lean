/-
  The walk of RefsPlay: what its steps leave; the switch, and what its arms owe.
-/
import Derived.Test.YtjapmhipbipdbaaSide
import Derived.Deep.CutBlock
import Derived.Deep.Light
namespace Go.Proofs.Ytjapmhipbipdbaa
open Go Go.RowKit

/-- Where a way goes on, under a name of its own. -/
def KeepM (J K : Act → World → Prop) : Prop := ∀ a w, Met J a w → K a w
theorem KeepM.mk {J K : Act → World → Prop} (h : ∀ a w, Met J a w → K a w) : KeepM J K := h
theorem KeepM.out {J K : Act → World → Prop} (h : KeepM J K) : ∀ a w, Met J a w → K a w := h

abbrev stepC (x0 x1 x2 : Int) : Array Value := #[.int .i64 x0, .int .i64 x1, .int .u32 x2]
theorem box0 {w : World} {Sb : Nat} {x0 x1 x2 : Int} (h : w.heap[Sb]? = some (.cells (stepC x0 x1 x2) 31 (0, 0))) : w.cell? ⟨Sb, 0, none⟩ = some (.int .i64 x0) ∧ w.cell? ⟨Sb, 1, none⟩ = some (.int .i64 x1) ∧ w.cell? ⟨Sb, 2, none⟩ = some (.int .u32 x2) := by
  refine ⟨?_, ?_, ?_⟩ <;> simp [World.cell?, h]
/-- As the walk meets a copy, in a statement that draws its order. -/
theorem step_copy {ops : Array Oper} {o : Oper} {a : Act} {w w' : World} {K : Act → World → Prop} {Q : Exit → Act → World → Prop} {E : Prop}
    (hg : o.guard = none) (s x : Operand) (hop : o.op = Op.call { callee := Callee.builtin Builtin.copy, args := #[s, x], argTypes := #[26, 26] })
    (v u r : Value) (hs : a.eval s = v) (hx : a.eval x = u) (hrun : (Builtin.copy_ #[26, 26] o.type #[v, u]).run Try.prog w = .ok r w')
    (hK : K (a.put o.dst r) w') :
    if Region.wanted o (yielded ops a.tmps) = true then Oper.wp Try.prog o a w K Q else E := by
  have hw : Region.wanted o (yielded ops a.tmps) = true := by simp [Region.wanted, hg]
  rw [if_pos hw]
  unfold Oper.wp
  simp [execOp, hop, resolve, invoke, builtin, hs, hx, hrun, Result.andThen]
  exact hK
theorem step_appC {ops : Array Oper} {o : Oper} {a : Act} {w w' : World} {K : Act → World → Prop} {Q : Exit → Act → World → Prop} {E : Prop}
    (hg : o.guard = none) (s x : Operand) (hop : o.op = Op.call { callee := Callee.builtin Builtin.append, args := #[s, x], argTypes := #[26, 26] })
    (v u r : Value) (hs : a.eval s = v) (hx : a.eval x = u) (hrun : (Builtin.append_ #[26, 26] o.type #[v, u]).run Try.prog w = .ok r w')
    (hK : K (a.put o.dst r) w') :
    if Region.wanted o (yielded ops a.tmps) = true then Oper.wp Try.prog o a w K Q else E := by
  have hw : Region.wanted o (yielded ops a.tmps) = true := by simp [Region.wanted, hg]
  rw [if_pos hw]
  unfold Oper.wp
  simp [execOp, hop, resolve, invoke, builtin, hs, hx, hrun, Result.andThen]
  exact hK

theorem Spot.yes {cs : List (Int × Int)} {h : Int} {a : Nat} (H : Spot cs h a true) : ∃ xs ys v, cs = xs ++ (h, v) :: ys ∧ xs.length = a ∧ cs[a]? = some (h, v) := by
  rcases H with ⟨_, xs, ys, v, rfl, rfl⟩ | ⟨e, _⟩
  · exact ⟨xs, ys, v, rfl, rfl, by simp⟩
  · cases e
theorem Spot.no {cs : List (Int × Int)} {h : Int} {a : Nat} (H : Spot cs h a false) : ∃ xs ys, cs = xs ++ ys ∧ xs.length = a ∧ (∀ p ∈ xs, p.1 < h) ∧ (∀ p ∈ ys, h < p.1) := by
  rcases H with ⟨e, _⟩ | ⟨_, xs, ys, h1, h2, h3, h4⟩
  · cases e
  · exact ⟨xs, ys, h1, h2, h3, h4⟩
theorem Spot.gt {cs : List (Int × Int)} {h : Int} {a : Nat} (H : Spot cs h a false) {p : Int × Int} (hp : cs[a]? = some p) : h < p.1 := by
  obtain ⟨xs, ys, rfl, rfl, _, h4⟩ := H.no
  refine h4 p ?_
  rw [List.getElem?_append_right (Nat.le_refl _)] at hp
  exact List.mem_of_getElem? hp
/-- Behind a step. -/
def Nx (W : World) (R n S Sb : Nat) (x0 x1 x2 : Int) (j : Nat) (s7 : Value) (w : World) : Prop :=
  ∃ (F : Nat → Prop) (P : Int → Option Int) (m : Nat) (T : Nat → List Int) (adm : Option Addr) (capm : Nat) (cs : List (Int × Int)) (A : Nat → Option Addr) (C : Nat → Nat), s7 = .slice adm cs.length capm ∧ Sq W w R F P m n T adm capm cs S A C T ∧ Good P m n T cs j ∧ w.heap[Sb]? = some (.cells (stepC x0 x1 x2) 31 (0, 0))

theorem pop_facts {W w : World} {R n S m capm i l : Nat} {x : Int} {zs : List Int} {adm : Option Addr} {F : Nat → Prop} {P : Int → Option Int} {T T2 : Nat → List Int} {cs : List (Int × Int)} {A : Nat → Option Addr} {C : Nat → Nat}
    (sq : Sq W w R F P m n T2 adm capm cs S A C T) (hi : i < n) (hT : T i = zs ++ [x]) (hl : l = zs.length) :
    ∃ g2, w.cell? ⟨S, i, none⟩ = some (.slice (some ⟨g2, 0, none⟩) (l + 1) (C i)) ∧ w.cell? ⟨g2, l, none⟩ = some (.int .u32 x) ∧ w.frozen? ⟨S, i, none⟩ = false ∧ l + 1 ≤ C i ∧ Stk (w.setCell ⟨S, i, none⟩ (.slice (some ⟨g2, 0, none⟩) l (C i))) S n A C (up T i zs) := by
  subst hl
  have own := sq.stk.own i hi
  have c1 := sq.stk.slice hi
  have hlen : (T i).length = zs.length + 1 := by rw [hT]; simp
  have hcap := own.max.2
  have s1 := sq.stk.cut hi zs.length (by omega)
  have e : (T i).take zs.length = zs := by rw [hT]; simp
  rw [e] at s1
  obtain ⟨g, hg⟩ := own.form (by omega)
  rw [hg] at own c1 s1
  have c2 := own.cell (i := zs.length) (by omega)
  have hx : (T i)[zs.length]! = x := by rw [hT]; simp
  rw [hx] at c2
  rw [hlen] at c1 hcap
  exact ⟨g, c1, c2, sq.stk.free i, hcap, s1⟩
theorem nx_chg {W w : World} {R n S Sb j g a m capm : Nat} {x0 x1 x2 v v' : Int} {F : Nat → Prop} {P : Int → Option Int} {T : Nat → List Int} {cs xs ys : List (Int × Int)} {A : Nat → Option Addr} {C : Nat → Nat}
    (sq : Sq W w R F P m n T (some ⟨g, 0, none⟩) capm cs S A C T) (hcs : cs = xs ++ (x2, v) :: ys) (hxl : xs.length = a) (gd : Good P m n T (xs ++ (x2, v') :: ys) j) (hs : w.heap[Sb]? = some (.cells (stepC x0 x1 x2) 31 (0, 0))) :
    Nx W R n S Sb x0 x1 x2 j (.slice (some ⟨g, 0, none⟩) cs.length capm) (w.setCell ⟨g, a * 2 + 1, none⟩ (.int .i64 v')) := by
  subst hcs
  have r := sq.own.setN (v' := v') hxl
  have bx := sq.box hs
  exact ⟨F, P, m, T, _, capm, xs ++ (x2, v') :: ys, A, C, by simp, sq.owned r.2 r.1 (fun g hg => .inl hg), gd, (r.2.block Sb bx.1 bx.2.2.1).trans hs⟩
theorem nx_put {W w : World} {R n S Sb j g a m capm L : Nat} {x0 x1 x2 v : Int} {x : Int × Int} {F : Nat → Prop} {P : Int → Option Int} {T : Nat → List Int} {xs ys : List (Int × Int)} {A : Nat → Option Addr} {C : Nat → Nat}
    (sq : Sq W w R F P m n T (some ⟨g, 0, none⟩) capm (xs ++ x :: ys) S A C T) (hxl : xs.length = a) (hL : L = xs.length + ys.length + 1) (gd : Good P m n T (xs ++ (x2, v) :: ys) j) (hs : w.heap[Sb]? = some (.cells (stepC x0 x1 x2) 31 (0, 0))) :
    Nx W R n S Sb x0 x1 x2 j (.slice (some ⟨g, 0, none⟩) L capm) (((w.setCell ⟨g, a * 2, none⟩ (.int .u32 x2)).setCell ⟨g, a * 2 + 1, none⟩ (.int .i64 0)).setCell ⟨g, a * 2 + 1, none⟩ (.int .i64 v)) := by
  have r := sq.own.setP (k := x2) (v := 0) hxl
  have r2 := r.1.setN (v' := v) hxl
  have bx := sq.box hs
  have rr := r.2.trans r2.2
  subst hL
  exact ⟨F, P, m, T, _, capm, xs ++ (x2, v) :: ys, A, C, by simp; omega, sq.owned rr r2.1 (fun g hg => .inl hg), gd, (rr.block Sb bx.1 bx.2.2.1).trans hs⟩
theorem nx_del {W w u w7 : World} {R n S Sb j m capm capm' L : Nat} {x0 x1 x2 : Int} {adm ad2 : Option Addr} {F : Nat → Prop} {P : Int → Option Int} {T : Nat → List Int} {cs zs : List (Int × Int)} {A : Nat → Option Addr} {C : Nat → Nat}
    (sq : Sq W w R F P m n T adm capm cs S A C T) (bu : Went (At adm) w u) (b7 : Below u.heap.size u w7) (o : OwnC w7 ad2 capm' zs) (hn : ∀ k, At ad2 k → u.heap.size ≤ k) (hL : L = zs.length) (gd : Good P m n T zs j) (hs : w.heap[Sb]? = some (.cells (stepC x0 x1 x2) 31 (0, 0))) :
    Nx W R n S Sb x0 x1 x2 j (.slice ad2 L capm') w7 := by
  have rr : Went (At adm) w w7 := bu.trans (Went.of_below b7)
  have bx := sq.box hs
  subst hL
  exact ⟨F, P, m, T, ad2, capm', zs, A, C, rfl, sq.owned rr o (fun g hg => .inr (Nat.le_trans bu.size (hn g hg))), gd, (rr.block Sb bx.1 bx.2.2.1).trans hs⟩
theorem nx_stk {W w w7 : World} {R n S Sb j m capm : Nat} {x0 x1 x2 : Int} {adm : Option Addr} {F : Nat → Prop} {P : Int → Option Int} {T T2 : Nat → List Int} {cs : List (Int × Int)} {A A' : Nat → Option Addr} {C C' : Nat → Nat}
    (sq : Sq W w R F P m n T adm capm cs S A C T2) (bw : Went (Fs S n A) w w7) (s : Stk w7 S n A' C' T) (hA : ∀ b, Fs S n A' b → Fs S n A b ∨ w.heap.size ≤ b) (gd : Good P m n T cs j) (hs : w.heap[Sb]? = some (.cells (stepC x0 x1 x2) 31 (0, 0))) :
    Nx W R n S Sb x0 x1 x2 j (.slice adm cs.length capm) w7 := by
  have bx := sq.box hs
  exact ⟨F, P, m, T, adm, capm, cs, A', C', rfl, sq.stacked bw s hA, gd, (bw.block Sb bx.1 bx.2.2.2).trans hs⟩
theorem nx_same {W w : World} {R n S Sb j m capm : Nat} {x0 x1 x2 : Int} {adm : Option Addr} {F : Nat → Prop} {P : Int → Option Int} {T : Nat → List Int} {cs : List (Int × Int)} {A : Nat → Option Addr} {C : Nat → Nat}
    (sq : Sq W w R F P m n T adm capm cs S A C T) (gd : Good P m n T cs j) (hs : w.heap[Sb]? = some (.cells (stepC x0 x1 x2) 31 (0, 0))) : Nx W R n S Sb x0 x1 x2 (j + 1) (.slice adm cs.length capm) w :=
  ⟨F, P, m, T, adm, capm, cs, A, C, rfl, sq, gd.same, hs⟩

/-! ## The switch -/
/-- A block of that number in a piece of code. -/
def findBlock (n : Nat) : Code → Option Code
  | .block m c => if m = n then some (.block m c) else findBlock n c
  | .loop c => findBlock n c
  | .scope c => findBlock n c
  | .seq a b => match findBlock n a with
    | some c => some c
    | none => findBlock n b
  | .cond _ a b => match findBlock n a with
    | some c => some c
    | none => findBlock n b
  | _ => none
set_option maxRecDepth 1000000 in
/-- What an arm of the switch owes: whatever stands in the slots that it doesn't read. -/
def SwAt (W : World) (R n S Sb a j : Nat) (x0 x1 x2 : Int) (s7 : Value) (bb inn : Bool) (wc : World) : Prop :=
  ∀ (c0 c1 c2 c3 u4 c9 u14 u15 u16 u17 c18 c19 c20 c21 c22 c23 c24 c25 c26 c27 c28 c29 c30 c31 c32 c33 c34 c35 c36 c37 c38 c39 c40 c41 c42 c43 c44 c45 c46 c47 c48 c49 c50 c51 c52 c53 c54 c55 c56 c57 c58 c59 c60 c61 c62 c63 c64 c65 c66 c67 c68 c69 c70 c71 c72 c73 c74 c75 c76 c77 c78 u79 u80 u81 u82 u83 u84 u85 u86 u87 u88 u89 u90 u91 u92 u93 u94 u95 u96 u97 u98 u99 u100 u101 u102 u103 u104 u105 u106 u107 u108 u109 u110 u111 u112 u113 u114 u115 u116 u117 u118 u119 u120 u121 u122 u123 u124 u125 u126 u127 u128 u129 u130 u131 u132 u133 u134 u135 u136 u137 u138 u139 u140 u141 u142 u143 u144 u145 u146 u147 u148 u149 u150 u151 u152 u153 u154 u155 u156 u157 u158 u159 u160 u161 u162 u163 u164 u165 u166 u167 u168 u169 u170 u171 u172 u173 u174 u175 u176 u177 u178 u179 u180 u181 u182 u183 u184 u185 u186 u187 u188 u189 u190 u191 u192 u193 u194 u195 u196 u197 u198 u199 u200 u201 u202 u203 u204 u205 u206 u207 u208 u209 u210 u211 u212 u213 u214 u215 u216 u217 u218 u219 u220 u221 u222 u223 u224 u225 u226 u227 u228 u229 u230 u231 u232 u233 u234 u235 u236 c237 c238 c239 c240 c241 c242 c243 c244 c245 c246 c247 c248 c249 c250 c251 c252 : Value) (J K' K1 K2 K3 : Act → World → Prop) (B0 : Ending → World → Prop),
    (∀ (a' : Act) (w' : World), (∃ u4 u7 u14 u15 u16 u17 u79 u80 u81 u82 u83 u84 u85 u86 u87 u88 u89 u90 u91 u92 u93 u94 u95 u96 u97 u98 u99 u100 u101 u102 u103 u104 u105 u106 u107 u108 u109 u110 u111 u112 u113 u114 u115 u116 u117 u118 u119 u120 u121 u122 u123 u124 u125 u126 u127 u128 u129 u130 u131 u132 u133 u134 u135 u136 u137 u138 u139 u140 u141 u142 u143 u144 u145 u146 u147 u148 u149 u150 u151 u152 u153 u154 u155 u156 u157 u158 u159 u160 u161 u162 u163 u164 u165 u166 u167 u168 u169 u170 u171 u172 u173 u174 u175 u176 u177 u178 u179 u180 u181 u182 u183 u184 u185 u186 u187 u188 u189 u190 u191 u192 u193 u194 u195 u196 u197 u198 u199 u200 u201 u202 u203 u204 u205 u206 u207 u208 u209 u210 u211 u212 u213 u214 u215 u216 u217 u218 u219 u220 u221 u222 u223 u224 u225 u226 u227 u228 u229 u230 u231 u232 u233 u234 u235 u236 : Value, Aside (Nx W R n S Sb x0 x1 x2 (j + 1) u7 w') ∧ a' = ⟨#[c0, c1, c2, c3, u4, .pointer (some ⟨R, 0, none⟩), .int .i64 (n : Int), u7, .slice (some ⟨S, 0, none⟩) n n, c9, .pointer (some ⟨Sb, 0, none⟩), .int .i64 (a : Int), .bool bb, .bool inn, u14, u15, u16, u17, c18, c19, c20, c21, c22, c23, c24, c25, c26, c27, c28, c29, c30, c31, c32, c33, c34, c35, c36, c37, c38, c39, c40, c41, c42, c43, c44, c45, c46, c47, c48, c49, c50, c51, c52, c53, c54, c55, c56, c57, c58, c59, c60, c61, c62, c63, c64, c65, c66, c67, c68, c69, c70, c71, c72, c73, c74, c75, c76, c77, c78, u79, u80, u81, u82, u83, u84, u85, u86, u87, u88, u89, u90, u91, u92, u93, u94, u95, u96, u97, u98, u99, u100, u101, u102, u103, u104, u105, u106, u107, u108, u109, u110, u111, u112, u113, u114, u115, u116, u117, u118, u119, u120, u121, u122, u123, u124, u125, u126, u127, u128, u129, u130, u131, u132, u133, u134, u135, u136, u137, u138, u139, u140, u141, u142, u143, u144, u145, u146, u147, u148, u149, u150, u151, u152, u153, u154, u155, u156, u157, u158, u159, u160, u161, u162, u163, u164, u165, u166, u167, u168, u169, u170, u171, u172, u173, u174, u175, u176, u177, u178, u179, u180, u181, u182, u183, u184, u185, u186, u187, u188, u189, u190, u191, u192, u193, u194, u195, u196, u197, u198, u199, u200, u201, u202, u203, u204, u205, u206, u207, u208, u209, u210, u211, u212, u213, u214, u215, u216, u217, u218, u219, u220, u221, u222, u223, u224, u225, u226, u227, u228, u229, u230, u231, u232, u233, u234, u235, u236, c237, c238, c239, c240, c241, c242, c243, c244, c245, c246, c247, c248, c249, c250, c251, c252], []⟩) → J a' w') →
    (∀ (a' : Act) (w' : World), Met J a' w' → K' a' w') →
    Code.wp Try.prog ((Try.f3.body.bind (findBlock 4)).getD .skip) (Exit.then K' (Exit.inBlock 1 (Exit.then K1 (Exit.then K2 (Exit.inBlock 0 (Exit.then K3 (bodyPost Try.prog Try.f3 B0))))))) ⟨#[c0, c1, c2, c3, u4, .pointer (some ⟨R, 0, none⟩), .int .i64 (n : Int), s7, .slice (some ⟨S, 0, none⟩) n n, c9, .pointer (some ⟨Sb, 0, none⟩), .int .i64 (a : Int), .bool bb, .bool inn, u14, u15, u16, u17, c18, c19, c20, c21, c22, c23, c24, c25, c26, c27, c28, c29, c30, c31, c32, c33, c34, c35, c36, c37, c38, c39, c40, c41, c42, c43, c44, c45, c46, c47, c48, c49, c50, c51, c52, c53, c54, c55, c56, c57, c58, c59, c60, c61, c62, c63, c64, c65, c66, c67, c68, c69, c70, c71, c72, c73, c74, c75, c76, c77, c78, u79, u80, u81, u82, u83, u84, u85, u86, u87, u88, u89, u90, u91, u92, u93, u94, u95, u96, u97, u98, u99, u100, u101, u102, u103, u104, u105, u106, u107, u108, u109, u110, u111, u112, u113, u114, u115, u116, u117, u118, u119, u120, u121, u122, u123, u124, u125, u126, u127, u128, u129, u130, u131, u132, u133, u134, u135, u136, u137, u138, u139, u140, u141, u142, u143, u144, u145, u146, u147, u148, u149, u150, u151, u152, u153, u154, u155, u156, u157, u158, u159, u160, u161, u162, u163, u164, u165, u166, u167, u168, u169, u170, u171, u172, u173, u174, u175, u176, u177, u178, u179, u180, u181, u182, u183, u184, u185, u186, u187, u188, u189, u190, u191, u192, u193, u194, u195, u196, u197, u198, u199, u200, u201, u202, u203, u204, u205, u206, u207, u208, u209, u210, u211, u212, u213, u214, u215, u216, u217, u218, u219, u220, u221, u222, u223, u224, u225, u226, u227, u228, u229, u230, u231, u232, u233, u234, u235, u236, c237, c238, c239, c240, c241, c242, c243, c244, c245, c246, c247, c248, c249, c250, c251, c252], []⟩ wc
/-- What stands ahead of the switch. -/
structure SwC (W : World) (R n S Sb a j m capm : Nat) (F : Nat → Prop) (P : Int → Option Int) (T : Nat → List Int) (adm : Option Addr) (cs : List (Int × Int)) (A : Nat → Option Addr) (C : Nat → Nat) (wc : World) (x0 x1 x2 : Int) (bb inn : Bool) : Prop where
  gdA : Aside (Good P m n T cs j)
  hj100 : j < 100
  hx2 : 0 ≤ x2 ∧ x2 ≤ 4294967295
  hcsl : cs.length ≤ 100
  hn0 : 0 < n
  hn4 : n ≤ 4
  spA : Aside (Spot cs x2 a bb)
  hale : a ≤ cs.length
  sqA : Aside (Sq W wc R F P m n T adm capm cs S A C T)
  hsA : Aside (wc.heap[Sb]? = some (.cells (stepC x0 x1 x2) 31 (0, 0)))
  hinA : Aside (inn = isIn n x1)
  bxA : Aside (Sb < wc.heap.size ∧ ¬ F Sb ∧ ¬ At adm Sb ∧ ¬ Fs S n A Sb)
end Go.Proofs.Ytjapmhipbipdbaa
