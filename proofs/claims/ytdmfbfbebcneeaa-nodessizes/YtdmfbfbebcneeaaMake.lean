/-
  A new store.
-/
import Derived.Test.YtdmfbfbebcneeaaMk
import Derived.Test.YtdmfbfbebcneeaaNew
import Derived.Test.YtdmfbfbebcneeaaRule
namespace Go.Proofs.Ytdmfbfbebcneeaa
open Go Go.RowKit

/-- An empty store. -/
def Mdl.empty (n room : Nat) : Mdl := ⟨n, Od.idn n, room, [], fun _ => (0, 0, 0)⟩
theorem Mdl.empty_ok {n room : Nat} (h1 : 1 ≤ n) (h8 : n ≤ 8) : (Mdl.empty n room).Ok := by
  refine ⟨h1, h8, fun i hi => ?_, fun i j hi hj e => ?_, by simp [Mdl.empty], ?_, Nat.zero_le _, ?_, ?_, ?_, ?_, ?_⟩
  · have hi' : i < n := hi
    show Od.idn n i < n
    unfold Od.idn
    rw [if_pos hi']
    exact hi'
  · have hi' : i < n := hi
    have hj' : j < n := hj
    change Od.idn n i = Od.idn n j at e
    unfold Od.idn at e
    rw [if_pos hi', if_pos hj'] at e
    exact e
  all_goals intro h hh; simp [Mdl.empty] at hh
theorem new_var (x y : Int) (w : World) (h : x < 1 ∨ 8 < x) :
    Calls Try.prog 9 #[.int .i64 x, .int .i64 y] w fun e w' => e = .returned (.tuple #[.pointer none, .int .i64 40]) ∧ w' = w := by
  by_cases h1 : x < 1
  · clear h
    go_enter Try.func9, Try.ntmps9
    go_wp2_with fail
    go_ret2
    exact ⟨rfl, rfl⟩
  · have h2 : 8 < x := by omega
    clear h
    go_enter Try.func9, Try.ntmps9
    go_wp2_with fail
    go_ret2
    exact ⟨rfl, rfl⟩
theorem new_full (x y : Int) (w : World) (h1 : 1 ≤ x) (h8 : x ≤ 8) (h : y < 1 ∨ 32768 < y) :
    Calls Try.prog 9 #[.int .i64 x, .int .i64 y] w fun e w' => e = .returned (.tuple #[.pointer none, .int .i64 60]) ∧ w' = w := by
  have a1 : ¬ x < 1 := by omega
  have a8 : ¬ 8 < x := by omega
  by_cases h1 : y < 1
  · clear h
    go_enter Try.func9, Try.ntmps9
    go_wp2_with fail
    go_ret2
    exact ⟨rfl, rfl⟩
  · have h2 : 32768 < y := by omega
    clear h
    go_enter Try.func9, Try.ntmps9
    go_wp2_with fail
    go_ret2
    exact ⟨rfl, rfl⟩
theorem ord17 {w : World} {P n : Nat} {v l : Nat → Nat} (h : Od.IsOrd w P n v l) : w.cell? ⟨P, 0, none⟩ = some (Od.ordCell n v l 0) ∧ w.cell? ⟨P, 1, none⟩ = some (Od.ordCell n v l 1) ∧ w.cell? ⟨P, 2, none⟩ = some (Od.ordCell n v l 2) ∧ w.cell? ⟨P, 3, none⟩ = some (Od.ordCell n v l 3) ∧ w.cell? ⟨P, 4, none⟩ = some (Od.ordCell n v l 4) ∧ w.cell? ⟨P, 5, none⟩ = some (Od.ordCell n v l 5) ∧ w.cell? ⟨P, 6, none⟩ = some (Od.ordCell n v l 6) ∧ w.cell? ⟨P, 7, none⟩ = some (Od.ordCell n v l 7) ∧ w.cell? ⟨P, 8, none⟩ = some (Od.ordCell n v l 8) ∧ w.cell? ⟨P, 9, none⟩ = some (Od.ordCell n v l 9) ∧ w.cell? ⟨P, 10, none⟩ = some (Od.ordCell n v l 10) ∧ w.cell? ⟨P, 11, none⟩ = some (Od.ordCell n v l 11) ∧ w.cell? ⟨P, 12, none⟩ = some (Od.ordCell n v l 12) ∧ w.cell? ⟨P, 13, none⟩ = some (Od.ordCell n v l 13) ∧ w.cell? ⟨P, 14, none⟩ = some (Od.ordCell n v l 14) ∧ w.cell? ⟨P, 15, none⟩ = some (Od.ordCell n v l 15) ∧ w.cell? ⟨P, 16, none⟩ = some (Od.ordCell n v l 16) := by
  refine ⟨?_, ?_, ?_, ?_, ?_, ?_, ?_, ?_, ?_, ?_, ?_, ?_, ?_, ?_, ?_, ?_, ?_⟩ <;> exact World.rowIs.cell h (by decide)
theorem heldN_nat {n : Nat} (h1 : 1 ≤ n) (h8 : n ≤ 8) : Od.heldN (n : Int) = n := by
  unfold Od.heldN
  rw [if_neg (by omega), if_neg (by omega)]
  omega
theorem held_nat {n : Nat} (h : n ≤ 262144) : held (n : Int) = n := by
  unfold held
  rw [if_neg (by omega), if_neg (by omega)]
  omega
/-- Two blocks of three cells. -/
def Two (T C P r m : Nat) (u : World) : Prop := u.heap[T]? = some (.cells #[.pointer (some ⟨P, 0, none⟩), .int .i64 0, .int .i64 (2 * (r : Int))] 82 (0, 0)) ∧ u.heap[C]? = some (.cells #[.pointer (some ⟨P, 0, none⟩), .int .i64 (2 * (r : Int)), .int .i64 (m : Int)] 85 (0, 0))
theorem Two.ltT {T C P r m : Nat} {u : World} (h : Two T C P r m u) : T < u.heap.size := (Array.getElem?_eq_some_iff.1 h.1).1
theorem Two.ltC {T C P r m : Nat} {u : World} (h : Two T C P r m u) : C < u.heap.size := (Array.getElem?_eq_some_iff.1 h.2).1
theorem Two.below {T C P r m : Nat} {u u' : World} (h : Two T C P r m u) (k : Below u.heap.size u u') : Two T C P r m u' := ⟨(k.block _ h.ltT).trans h.1, (k.block _ h.ltC).trans h.2⟩
theorem Two.new {T C P r m : Nat} {u : World} (h : Two T C P r m u) (o : Obj) : Two T C P r m (u.alloc o) := ⟨(Below.heap_alloc _ _ _ h.ltT).trans h.1, (Below.heap_alloc _ _ _ h.ltC).trans h.2⟩
theorem Two.drew {T C P r m : Nat} {u : World} (h : Two T C P r m u) : Two T C P r m u.drew := h
theorem Two.six {T C P r m : Nat} {u : World} (h : Two T C P r m u) : Two T C P r m u ∧ u.cell? ⟨T, 0, none⟩ = some (.pointer (some ⟨P, 0, none⟩)) ∧ u.cell? ⟨T, 1, none⟩ = some (.int .i64 0) ∧ u.cell? ⟨T, 2, none⟩ = some (.int .i64 (2 * (r : Int))) ∧ u.cell? ⟨C, 0, none⟩ = some (.pointer (some ⟨P, 0, none⟩)) ∧ u.cell? ⟨C, 1, none⟩ = some (.int .i64 (2 * (r : Int))) ∧ u.cell? ⟨C, 2, none⟩ = some (.int .i64 (m : Int)) := by
  refine ⟨h, ?_, ?_, ?_, ?_, ?_, ?_⟩ <;> simp [World.cell?, h.1, h.2]
/-- The slots of the statement that lays a store. -/
def slN (i : Nat) : Tmp := [49, 50, 51, 52, 53, 54, 55, 56, 57, 58, 59, 60, 61, 62, 4, 5].getD i 0
def ordL (n : Nat) : Array Value := #[Od.ordCell n (Od.idn n) (Od.idn n) 0, Od.ordCell n (Od.idn n) (Od.idn n) 1, Od.ordCell n (Od.idn n) (Od.idn n) 2, Od.ordCell n (Od.idn n) (Od.idn n) 3, Od.ordCell n (Od.idn n) (Od.idn n) 4, Od.ordCell n (Od.idn n) (Od.idn n) 5, Od.ordCell n (Od.idn n) (Od.idn n) 6, Od.ordCell n (Od.idn n) (Od.idn n) 7, Od.ordCell n (Od.idn n) (Od.idn n) 8, Od.ordCell n (Od.idn n) (Od.idn n) 9, Od.ordCell n (Od.idn n) (Od.idn n) 10, Od.ordCell n (Od.idn n) (Od.idn n) 11, Od.ordCell n (Od.idn n) (Od.idn n) 12, Od.ordCell n (Od.idn n) (Od.idn n) 13, Od.ordCell n (Od.idn n) (Od.idn n) 14, Od.ordCell n (Od.idn n) (Od.idn n) 15, Od.ordCell n (Od.idn n) (Od.idn n) 16]
def litN (n r m P b : Nat) : Array Value := #[Od.ordCell n (Od.idn n) (Od.idn n) 0, Od.ordCell n (Od.idn n) (Od.idn n) 1, Od.ordCell n (Od.idn n) (Od.idn n) 2, Od.ordCell n (Od.idn n) (Od.idn n) 3, Od.ordCell n (Od.idn n) (Od.idn n) 4, Od.ordCell n (Od.idn n) (Od.idn n) 5, Od.ordCell n (Od.idn n) (Od.idn n) 6, Od.ordCell n (Od.idn n) (Od.idn n) 7, Od.ordCell n (Od.idn n) (Od.idn n) 8, Od.ordCell n (Od.idn n) (Od.idn n) 9, Od.ordCell n (Od.idn n) (Od.idn n) 10, Od.ordCell n (Od.idn n) (Od.idn n) 11, Od.ordCell n (Od.idn n) (Od.idn n) 12, Od.ordCell n (Od.idn n) (Od.idn n) 13, Od.ordCell n (Od.idn n) (Od.idn n) 14, Od.ordCell n (Od.idn n) (Od.idn n) 15, Od.ordCell n (Od.idn n) (Od.idn n) 16, .int .i64 (r : Int), .slice none 0 0, .pointer (some ⟨P, 0, none⟩), .int .i64 0, .int .i64 (2 * (r : Int)), .map (some b), .pointer (some ⟨P, 0, none⟩), .int .i64 (2 * (r : Int)), .int .i64 (m : Int), .bool true]
/-- What its operations leave. -/
def prN (n r m P T C H : Nat) (i : Nat) (v : Value) (u : World) : Prop :=
  match i with
  | 0 => v = .int .i64 (n : Int)
  | 1 => ∃ G, v = .pointer (some ⟨G, 0, none⟩) ∧ Od.IsOrd u G n (Od.idn n) (Od.idn n)
  | 2 => ∃ G, v = .pointer (some ⟨G, 0, none⟩) ∧ Od.IsOrd u G n (Od.idn n) (Od.idn n)
  | 3 => v = .agg (ordL n)
  | 4 => v = .int .i64 (r : Int)
  | 5 => v = .pointer (some ⟨T, 0, none⟩)
  | 6 => v = .pointer (some ⟨T, 0, none⟩)
  | 7 => v = .agg #[.pointer (some ⟨P, 0, none⟩), .int .i64 0, .int .i64 (2 * (r : Int))]
  | 8 => ∃ b, v = .map (some b) ∧ IsMap u b (fun _ => none) ∧ H ≤ b
  | 9 => v = .pointer (some ⟨C, 0, none⟩)
  | 10 => v = .pointer (some ⟨C, 0, none⟩)
  | 11 => v = .agg #[.pointer (some ⟨P, 0, none⟩), .int .i64 (2 * (r : Int)), .int .i64 (m : Int)]
  | 12 => ∃ b, v = .agg (litN n r m P b) ∧ IsMap u b (fun _ => none) ∧ H ≤ b
  | 13 => ∃ S b, v = .pointer (some ⟨S, 0, none⟩) ∧ u.heap[S]? = some (.cells (litN n r m P b) 88 (0, 0)) ∧ IsMap u b (fun _ => none) ∧ H ≤ b ∧ H ≤ S
  | 14 => ∃ S b, v = .pointer (some ⟨S, 0, none⟩) ∧ u.heap[S]? = some (.cells (litN n r m P b) 88 (0, 0)) ∧ IsMap u b (fun _ => none) ∧ H ≤ b ∧ H ≤ S
  | _ => v = .int .i64 0
theorem slN_inj : ∀ i j, i < 16 → j < 16 → slN i = slN j → i = j := by
  have h : ∀ i : Fin 16, ∀ j : Fin 16, slN i.1 = slN j.1 → i = j := by decide
  exact fun i j hi hj e => congrArg Fin.val (h ⟨i, hi⟩ ⟨j, hj⟩ e)
theorem slN_lt : ∀ i, i < 16 → slN i < 63 := by
  have h : ∀ i : Fin 16, slN i.1 < 63 := by decide
  exact fun i hi => h ⟨i, hi⟩
theorem prN_mono {n r m P T C H : Nat} : ∀ i v w w', Below w.heap.size w w' → prN n r m P T C H i v w → prN n r m P T C H i v w' := by
  intro i v w w' b h
  have kp : ∀ {q : Nat} {f : Int → Option Int}, IsMap w q f → IsMap w' q f := fun m => m.same (b.block _ m.lt)
  have hb : ∀ {q : Nat} {o : Obj}, w.heap[q]? = some o → w'.heap[q]? = some o := fun e => (b.block _ (Array.getElem?_eq_some_iff.1 e).1).trans e
  unfold prN at h ⊢
  split at h <;> try exact h
  · obtain ⟨G, e, o⟩ := h; exact ⟨G, e, o.below b⟩
  · obtain ⟨G, e, o⟩ := h; exact ⟨G, e, o.below b⟩
  · obtain ⟨q, e, m, x⟩ := h; exact ⟨q, e, kp m, x⟩
  · obtain ⟨q, e, m, x⟩ := h; exact ⟨q, e, kp m, x⟩
  · obtain ⟨S, q, e, o, m, x⟩ := h; exact ⟨S, q, e, hb o, kp m, x⟩
  · obtain ⟨S, q, e, o, m, x⟩ := h; exact ⟨S, q, e, hb o, kp m, x⟩
theorem ordL_cells {w : World} {P n : Nat} (h : Od.IsOrd w P n (Od.idn n) (Od.idn n)) : ∀ j u, (ordL n).toList[j]? = some u → w.cell? ⟨P, 0 + j, none⟩ = some u := fun j u hu => by
  have hj : j < 17 := (List.getElem?_eq_some_iff.1 hu).1
  rw [Nat.zero_add, World.rowIs.cell h hj, ← hu]
  have cj : j = 0 ∨ j = 1 ∨ j = 2 ∨ j = 3 ∨ j = 4 ∨ j = 5 ∨ j = 6 ∨ j = 7 ∨ j = 8 ∨ j = 9 ∨ j = 10 ∨ j = 11 ∨ j = 12 ∨ j = 13 ∨ j = 14 ∨ j = 15 ∨ j = 16 := by omega
  rcases cj with rfl | rfl | rfl | rfl | rfl | rfl | rfl | rfl | rfl | rfl | rfl | rfl | rfl | rfl | rfl | rfl | rfl <;> rfl
theorem build_lit (n r m P b : Nat) (w : World) : (Instr.build 88 #[(0, .agg (ordL n)), (1, .int .i64 (r : Int)), (3, .agg #[.pointer (some ⟨P, 0, none⟩), .int .i64 0, .int .i64 (2 * (r : Int))]), (4, .map (some b)), (5, .agg #[.pointer (some ⟨P, 0, none⟩), .int .i64 (2 * (r : Int)), .int .i64 (m : Int)]), (6, .bool true)]).run Try.prog w = .ok (.agg (litN n r m P b)) w := by
  kernel_rfl
theorem box_lit (n r m P b : Nat) (w : World) : (Instr.box 88 (.agg (litN n r m P b))).run Try.prog w = .ok (.pointer (some ⟨w.heap.size, 0, none⟩)) (w.alloc (.cells (litN n r m P b) 88)) := by
  kernel_rfl
theorem wp_build {n r m P b : Nat} {a : Act} {w : World} {K : Act → World → Prop} {Q : Exit → Act → World → Prop} {ty : TypeId} {pos : String} {af : Array Edge} (h : (Instr.build 88 #[(0, .agg (ordL n)), (1, .int .i64 (r : Int)), (3, .agg #[.pointer (some ⟨P, 0, none⟩), .int .i64 0, .int .i64 (2 * (r : Int))]), (4, .map (some b)), (5, .agg #[.pointer (some ⟨P, 0, none⟩), .int .i64 (2 * (r : Int)), .int .i64 (m : Int)]), (6, .bool true)]).run Try.prog w = .ok (.agg (litN n r m P b)) w)
    (q0 : a.tmps.getD 52 undef = .agg (ordL n)) (q1 : a.tmps.getD 53 undef = .int .i64 (r : Int)) (q2 : a.tmps.getD 56 undef = .agg #[.pointer (some ⟨P, 0, none⟩), .int .i64 0, .int .i64 (2 * (r : Int))]) (q3 : a.tmps.getD 57 undef = .map (some b)) (q4 : a.tmps.getD 60 undef = .agg #[.pointer (some ⟨P, 0, none⟩), .int .i64 (2 * (r : Int)), .int .i64 (m : Int)])
    (hK : K (a.put (some 61) (.agg (litN n r m P b))) w) : Oper.wp Try.prog { dst := some 61, op := .build 88 #[(0, .tmp 52), (1, .tmp 53), (3, .tmp 56), (4, .tmp 57), (5, .tmp 60), (6, .const (.bool true))], type := ty, pos := pos, after := af, guard := none } a w K Q := by
  unfold Oper.wp execOp
  simp only [List.map_toArray, List.map_cons, List.map_nil, Act.eval, q0, q1, q2, q3, q4, Sem.run_bind, h, Result.andThen_ok, Sem.run_pure]
  exact hK
theorem wp_box {n r m P b : Nat} {a : Act} {w : World} {K : Act → World → Prop} {Q : Exit → Act → World → Prop} {ty : TypeId} {pos : String} {af : Array Edge}
    (q0 : a.tmps.getD 61 undef = .agg (litN n r m P b)) (hK : K (a.put (some 62) (.pointer (some ⟨w.heap.size, 0, none⟩))) (w.alloc (.cells (litN n r m P b) 88))) : Oper.wp Try.prog { dst := some 62, op := .box 88 (.tmp 61), type := ty, pos := pos, after := af, guard := none } a w K Q := by
  unfold Oper.wp execOp
  simp only [Act.eval, q0, Sem.run_bind, box_lit, Result.andThen_ok, Sem.run_pure]
  exact hK
set_option maxRecDepth 100000 in
set_option maxHeartbeats 2000000 in
theorem new_ok (n r : Nat) (w : World) (h1 : 1 ≤ n) (h8 : n ≤ 8) (r1 : 1 ≤ r) (r2 : r ≤ 32768) :
    Calls Try.prog 9 #[.int .i64 (n : Int), .int .i64 (r : Int)] w fun e w' => ∃ S I, e = .returned (.tuple #[.pointer (some ⟨S, 0, none⟩), .int .i64 0]) ∧ StI w' S (Mdl.empty n r) I ∧ Below w.heap.size w w' ∧ ∀ k, Fp S I k → w.heap.size ≤ k := by
  have a1 : ¬ (n : Int) < 1 := by omega
  have a8 : ¬ (8 : Int) < (n : Int) := by omega
  have b1 : ¬ (r : Int) < 1 := by omega
  have b2 : ¬ (32768 : Int) < (r : Int) := by omega
  obtain ⟨m, hm⟩ : ∃ m : Nat, (if (1024 : Int) < (r : Int) then 1024 else (r : Int)) = (m : Int) ∧ 1 ≤ m ∧ m ≤ 1024 := by
    by_cases c : (1024 : Int) < (r : Int)
    · exact ⟨1024, by rw [if_pos c]; rfl, by omega, by omega⟩
    · exact ⟨r, by rw [if_neg c], by omega, by omega⟩
  obtain ⟨hm, m1, m2⟩ := hm
  have K1 := Ch.cells_any m w (by omega)
  have K2 := new_any (2 * (r : Int) + 4 * (m : Int)) w
  have hheld : held (2 * (r : Int) + 4 * (m : Int)) = 2 * r + 4 * m := by
    have := held_nat (n := 2 * r + 4 * m) (by omega)
    rw [← this]
    congr 1
  rw [hheld] at K2
  have hcast : ((2 * r : Nat) : Int) = 2 * (r : Int) := by omega
  have hcA : Aside (((2 * r : Nat) : Int) = 2 * (r : Int)) := hcast
  clear hheld hcast
  generalize hH : w.heap.size = A at K2
  have hH' : Aside (w.heap.size = A) := hH
  clear hH
  go_enter Try.func9, Try.ntmps9
  go_wp2_with (first
    | (go_at_call 34; refine K1.mono ?_; clear K1; rintro e w ⟨rfl, rfl⟩)
    | (go_at_call 33; refine K2.mono ?_; clear K2; rintro e w1 ⟨rfl, m1, b1, s1⟩; have s1A : Aside (w1.heap.size = A + 2) := s1; clear s1; have K3 := Tb.tab_new m1 0 (2 * r) (by omega) (by omega) (by omega); rw [hcA.out, show ((0 : Nat) : Int) = 0 from rfl] at K3; generalize hT : w1.heap.size = T at K3; have hTA : Aside (w1.heap.size = T) := hT; clear hT; have m2 := m1.new (.cells #[.pointer (some ⟨A + 1, 0, none⟩), .int .i64 0, .int .i64 (2 * (r : Int))] 82))
    | (go_at_call 35; refine K3.mono ?_; clear K3; rintro e w2 ⟨rfl, hw2⟩; have b2 : Aside (w2 = _) := hw2; rw [← hw2] at m2; clear hw2; have K4 := Ch.cache_new m2 (2 * r) m (by omega) (by omega) (by omega) (by omega); rw [hcA.out] at K4; generalize hC : w2.heap.size = C at K4; have hCA : Aside (w2.heap.size = C) := hC; clear hC)
    | (go_at_call 36; refine K4.mono ?_; clear K4; rintro e w3 ⟨rfl, hw3⟩; have b3 : Aside (w3 = _) := hw3; clear hw3))
  have two : Two T C (A + 1) r m w3 := by
    rw [b3.out]
    refine ⟨?_, ?_⟩
    · rw [Below.heap_alloc _ _ _ (by rw [b2.out]; simp; rw [hTA.out]; omega), b2.out]
      rw [← hTA.out]
      exact Go.Deep.blk_alloc_new _ _
    · rw [← hCA.out]
      exact Go.Deep.blk_alloc_new _ _
  have KO : Aside (∀ u, Calls Try.prog 37 #[.int .i64 (n : Int)] u fun e w' => ∃ G, e = .returned (.pointer (some ⟨G, 0, none⟩)) ∧ Od.IsOrd w' G n (Od.idn n) (Od.idn n) ∧ Below u.heap.size u w' ∧ Aside (u.heap.size ≤ G)) := fun u => by
    have := Od.new_any (n : Int) u
    rw [heldN_nat h1 h8] at this
    refine this.mono ?_
    rintro e w' ⟨rfl, o5, b5⟩
    exact ⟨_, rfl, o5, b5, Nat.le_refl _⟩
  have H3 : Aside (A ≤ w3.heap.size) := by
    simp only [Aside]
    rw [b3.out, b2.out]
    simp
    have := s1A.out
    omega
  have hTw : ∀ u, Below w3.heap.size w3.drew u → Two T C (A + 1) r m u := fun u hu => two.below ⟨hu.os, hu.tape, hu.output, hu.size, hu.block⟩
  refine wp_region_pr (by kernel_rfl) (by kernel_rfl) slN (prN n r m (A + 1) T C w3.heap.size) ?_ ?_ ?_ ?_ ?_ ?_
  · exact prN_mono
  · intro i o ho
    have hi : i < 16 := (Array.getElem?_eq_some_iff.1 ho).1
    have ci : i = 0 ∨ i = 1 ∨ i = 2 ∨ i = 3 ∨ i = 4 ∨ i = 5 ∨ i = 6 ∨ i = 7 ∨ i = 8 ∨ i = 9 ∨ i = 10 ∨ i = 11 ∨ i = 12 ∨ i = 13 ∨ i = 14 ∨ i = 15 := by omega
    rcases ci with rfl | rfl | rfl | rfl | rfl | rfl | rfl | rfl | rfl | rfl | rfl | rfl | rfl | rfl | rfl | rfl <;> (simp at ho; subst ho; exact ⟨rfl, rfl⟩)
  · exact fun i j hi hj e => slN_inj i j hi hj e
  · exact fun i hi => Nat.lt_of_lt_of_le (slN_lt i hi) (Nat.le_refl 63)
  · intro i o a' w' ho hs hBl hdep K hK
    have hi : i < 16 := (Array.getElem?_eq_some_iff.1 ho).1
    have ci : i = 0 ∨ i = 1 ∨ i = 2 ∨ i = 3 ∨ i = 4 ∨ i = 5 ∨ i = 6 ∨ i = 7 ∨ i = 8 ∨ i = 9 ∨ i = 10 ∨ i = 11 ∨ i = 12 ∨ i = 13 ∨ i = 14 ∨ i = 15 := by omega
    rcases ci with rfl | rfl | rfl | rfl | rfl | rfl | rfl | rfl | rfl | rfl | rfl | rfl | rfl | rfl | rfl | rfl
    · simp at ho
      subst ho
      have q0 : slot a' 0 = .int .i64 (n : Int) := hs 0 (by decide)
      unfold slot at q0
      go_simp
      exact hK _ _ (Below.refl _ _) rfl
    · simp at ho
      subst ho
      have q0 : slot a' 49 = .int .i64 (n : Int) := hdep { on := 0, ground := .data } (by simp) (by decide)
      unfold slot at q0
      go_simp
      refine (KO.out w').mono ?_
      rintro e w5 ⟨G, rfl, o5, b5, g5⟩
      exact hK _ _ b5 ⟨G, rfl, o5⟩
    · simp at ho
      subst ho
      obtain ⟨G, q0, o5⟩ := hdep { on := 1, ground := .data } (by simp) (by decide)
      unfold slot at q0
      change a'.tmps.getD 50 undef = _ at q0
      go_simp
      exact hK _ _ (Below.refl _ _) ⟨G, rfl, o5⟩
    · simp at ho
      subst ho
      obtain ⟨G, q0, o5⟩ := hdep { on := 2, ground := .data } (by simp) (by decide)
      unfold slot at q0
      change a'.tmps.getD 51 undef = _ at q0
      exact Od.wp_load_cells 79 (.tmp 51) rfl G 0 q0 (ordL n) _ (ordL_cells o5) Try.underlying79 rfl (by kernel_rfl) (hK _ _ (Below.refl _ _) rfl)
    · simp at ho
      subst ho
      have q0 : slot a' 1 = .int .i64 (r : Int) := hs 1 (by decide)
      unfold slot at q0
      go_simp
      exact hK _ _ (Below.refl _ _) rfl
    · simp at ho
      subst ho
      have q0 : slot a' 8 = .pointer (some ⟨T, 0, none⟩) := hs 8 (by decide)
      unfold slot at q0
      go_simp
      exact hK _ _ (Below.refl _ _) rfl
    · simp at ho
      subst ho
      have q0 : slot a' 54 = .pointer (some ⟨T, 0, none⟩) := hdep { on := 5, ground := .data } (by simp) (by decide)
      unfold slot at q0
      go_simp
      exact hK _ _ (Below.refl _ _) rfl
    · simp at ho
      subst ho
      have q0 : slot a' 55 = .pointer (some ⟨T, 0, none⟩) := hdep { on := 6, ground := .data } (by simp) (by decide)
      unfold slot at q0
      obtain ⟨_, z0, z1, z2, _⟩ := (hTw w' hBl).six
      go_simp
      exact hK _ _ (Below.refl _ _) rfl
    · simp at ho
      subst ho
      have hmm := @run_makeMap Try.prog
      go_simp
      exact hK _ _ ((Below.refl _ _).alloc (Nat.le_refl _) _) ⟨_, rfl, IsMap.fresh w', hBl.size⟩
    · simp at ho
      subst ho
      have q0 : slot a' 10 = .pointer (some ⟨C, 0, none⟩) := hs 10 (by decide)
      unfold slot at q0
      go_simp
      exact hK _ _ (Below.refl _ _) rfl
    · simp at ho
      subst ho
      have q0 : slot a' 58 = .pointer (some ⟨C, 0, none⟩) := hdep { on := 9, ground := .data } (by simp) (by decide)
      unfold slot at q0
      go_simp
      exact hK _ _ (Below.refl _ _) rfl
    · simp at ho
      subst ho
      have q0 : slot a' 59 = .pointer (some ⟨C, 0, none⟩) := hdep { on := 10, ground := .data } (by simp) (by decide)
      unfold slot at q0
      obtain ⟨_, _, _, _, z0, z1, z2⟩ := (hTw w' hBl).six
      go_simp
      exact hK _ _ (Below.refl _ _) rfl
    · simp at ho
      subst ho
      have q0 : slot a' 52 = .agg (ordL n) := hdep { on := 3, ground := .data } (by simp) (by decide)
      unfold slot at q0
      have q1 : slot a' 53 = .int .i64 (r : Int) := hdep { on := 4, ground := .data } (by simp) (by decide)
      unfold slot at q1
      have q2 : slot a' 56 = .agg #[.pointer (some ⟨A + 1, 0, none⟩), .int .i64 0, .int .i64 (2 * (r : Int))] := hdep { on := 7, ground := .data } (by simp) (by decide)
      unfold slot at q2
      obtain ⟨b, q3, mb, hb⟩ := hdep { on := 8, ground := .data } (by simp) (by decide)
      unfold slot at q3
      change a'.tmps.getD 57 undef = _ at q3
      have q4 : slot a' 60 = .agg #[.pointer (some ⟨A + 1, 0, none⟩), .int .i64 (2 * (r : Int)), .int .i64 (m : Int)] := hdep { on := 11, ground := .data } (by simp) (by decide)
      unfold slot at q4
      have hbd := build_lit n r m (A + 1) b w'
      exact wp_build hbd q0 q1 q2 q3 q4 (hK _ _ (Below.refl _ _) ⟨b, rfl, mb, hb⟩)
    · simp at ho
      subst ho
      obtain ⟨b, q0, mb, hb⟩ := hdep { on := 12, ground := .data } (by simp) (by decide)
      unfold slot at q0
      change a'.tmps.getD 61 undef = _ at q0
      exact wp_box q0 (hK _ _ ((Below.refl _ _).alloc (Nat.le_refl _) _) ⟨_, b, rfl, Go.Deep.blk_alloc_new _ _, mb.same (Below.heap_alloc _ _ _ mb.lt), hb, hBl.size⟩)
    · simp at ho
      subst ho
      obtain ⟨S, b, q0, r0⟩ := hdep { on := 13, ground := .data } (by simp) (by decide)
      unfold slot at q0
      change a'.tmps.getD 62 undef = _ at q0
      go_simp
      exact hK _ _ (Below.refl _ _) ⟨S, b, rfl, r0⟩
    · simp at ho
      subst ho
      go_simp
      exact hK _ _ (Below.refl _ _) rfl
  · intro a' w' hdf hs hBl hp
    obtain ⟨S, b, q4, hS, mb, hb, hSB⟩ := hp 14 (by decide)
    have q5 : slot a' 5 = .int .i64 0 := hp 15 (by decide)
    change a'.tmps.getD 4 undef = _ at q4
    change a'.tmps.getD 5 undef = _ at q5
    refine ‹∀ (a : Act) (w : World), Code.wp Try.prog Code.ret _ a w → _› a' w' ?_
    have hB3 : Below w3.heap.size w3 w' := ⟨hBl.os, hBl.tape, hBl.output, hBl.size, hBl.block⟩
    have m3 : IsMem w' (A + 1) A (2 * r + 4 * m) (fun _ => 0) 0 0 := by
      have e3 := m2.new (.cells #[.pointer (some ⟨A + 1, 0, none⟩), .int .i64 (2 * (r : Int)), .int .i64 (m : Int)] 85)
      rw [← b3.out] at e3
      exact e3.of_blocks (hB3.block _ e3.ltP) (hB3.block _ e3.ltR)
    have hA := hH'.out
    have hA3 := H3.out
    have hBw : Below w.heap.size w w' := by
      have h1 := s1A.out
      have e2 : Below A w1 w2 := by rw [b2.out]; exact (Below.refl _ _).alloc (by omega) _
      have e3 : Below A w2 w3 := by rw [b3.out]; exact (Below.refl _ _).alloc (Nat.le_trans (by omega) e2.size) _
      rw [hA]
      exact ((b1.trans e2).trans e3).trans ⟨hB3.os, hB3.tape, hB3.output, hB3.size, fun k hk => hB3.block k (by omega)⟩
    go_wp2_with fail
    refine bodyPost_ret (v := .tuple #[.pointer (some ⟨S, 0, none⟩), .int .i64 0]) (by simp only [Array.getD_eq_getD_getElem?] at q4 q5; simp [results, Try.results9, q4, q5, go_sem]) hdf ⟨S, rfl, ⟨A + 1, A, b, none, 0, m, fun _ => 0, fun _ => 0, fun _ => none, Od.idn n, true⟩, ⟨⟨_, hS, rfl, fun i hi => ?_⟩, ⟨0, 0, m3⟩, OwnR.nil _ _ _ _, mb, ?_⟩, hA ▸ hBw, fun k hk => ?_⟩
    · have c27 : i = 0 ∨ i = 1 ∨ i = 2 ∨ i = 3 ∨ i = 4 ∨ i = 5 ∨ i = 6 ∨ i = 7 ∨ i = 8 ∨ i = 9 ∨ i = 10 ∨ i = 11 ∨ i = 12 ∨ i = 13 ∨ i = 14 ∨ i = 15 ∨ i = 16 ∨ i = 17 ∨ i = 18 ∨ i = 19 ∨ i = 20 ∨ i = 21 ∨ i = 22 ∨ i = 23 ∨ i = 24 ∨ i = 25 ∨ i = 26 := by omega
      have e2 : (2 * (r : Int)) = ((2 * r : Nat) : Int) := hcA.out.symm
      rcases c27 with rfl | rfl | rfl | rfl | rfl | rfl | rfl | rfl | rfl | rfl | rfl | rfl | rfl | rfl | rfl | rfl | rfl | rfl | rfl | rfl | rfl | rfl | rfl | rfl | rfl | rfl | rfl <;> first | rfl | (show some (Value.int .i64 (2 * (r : Int))) = some (Value.int .i64 ((2 * r : Nat) : Int)); rw [e2])
    · refine ⟨Mdl.empty_ok h1 h8, r1, r2, ‹1 ≤ m›, ‹m ≤ 1024›, rfl, fun i hi => absurd hi (Nat.not_lt_zero _), fun _ => ⟨Int.le_refl 0, show (0 : Int) ≤ _ by omega⟩, Tb.Good.empty _, fun s _ h => absurd rfl h, fun i hi => absurd hi (Nat.not_lt_zero _), Tb.cnt_zero _, fun key _ _ hk => absurd (show Ch.hi 0 = 0 by decide) hk.1⟩
    · rcases hk with e | e | e | e | ⟨a, ha, _⟩
      · rw [e]; omega
      · show A ≤ k; rw [e]; show A ≤ A + 1; omega
      · show A ≤ k; rw [e]; exact Nat.le_refl A
      · show A ≤ k; rw [e]; show A ≤ b; omega
      · cases ha
end Go.Proofs.Ytdmfbfbebcneeaa
