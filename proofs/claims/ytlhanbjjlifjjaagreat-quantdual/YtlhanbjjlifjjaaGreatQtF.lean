/-
  Package quant by its face: Exists, Forall, Restrict; over a store with known handles.
-/
import Derived.Test.YtlhanbjjlifjjaaGreatQtV
import Derived.Test.YtlhanbjjlifjjaaGreatQtL
namespace Go.Proofs.YtlhanbjjlifjjaaGreat
open Go Go.RowKit
open Rf (fixAt fixF)
attribute [local go_sem] Ch.run_store_func

section
variable {w : World} {S : Nat} {F0 : Nat → Prop} {M : Mdl} {a f m nv : Nat} {J : Nat → Bool → Bool → Bool} {Q : (Nat → Bool) → Nat → Bool}
theorem mask_in {n : Nat} (n8 : n ≤ 8) (hm : m < 2 ^ n) : (m : Int) / 2 ^ n = 0 ∧ m < 256 := by
  have p : (2 : Nat) ^ n ≤ 2 ^ 8 := Nat.pow_le_pow_right (by omega) n8
  refine ⟨?_, by omega⟩
  have : (m : Int) / 2 ^ n = ((m / 2 ^ n : Nat) : Int) := by push_cast; rfl
  rw [this, Nat.div_eq_of_lt hm]
  rfl
theorem mask_out {n : Nat} (hm : 2 ^ n ≤ m) : ¬ (m : Int) / 2 ^ n = 0 := by
  have : (m : Int) / 2 ^ n = ((m / 2 ^ n : Nat) : Int) := by push_cast; rfl
  rw [this]
  intro h
  have h0 : m / 2 ^ n = 0 := Int.ofNat.inj h
  have p : 0 < 2 ^ n := Nat.two_pow_pos n
  have := (Nat.div_eq_zero_iff.1 h0).resolve_left (by omega)
  omega
set_option maxRecDepth 100000 in
set_option maxHeartbeats 2000000 in
theorem answerq_any (i : IsQ m J Q) (hf : ∀ (vs : Array Value) (w : World), (callFunc f vs).run Tryz.prog w = .ok (.enter f vs) w) (j : ∀ o z, JoinAt Q S o z f m nv M.n) (s : St w S F0 M) (ha : M.isNode a) (hm : m < 2 ^ M.n) (hv : nv < 256) :
    Calls Tryz.prog 42 #[.pointer (some ⟨S, 0, none⟩), .int .u32 (a : Int), .int .u8 (m : Int), .int .u8 (nv : Int), .func (.func f) #[] #[]] w (LeftQ S F0 w M 0 a (Q (M.tbl a))) := by
  have ok := s.ok
  have n8 := ok.le8
  obtain ⟨m0, m8⟩ := mask_in n8 hm
  have K1 := s_is s a (by have := Mdl.isNode_lt ok ha; omega)
  rw [Mdl.nodeB_true ha] at K1
  have K2 := s_vars s
  have KB := byLevels_any s m m8
  have KB2 : Aside (∀ {u : World}, St u S F0 M → Calls Tryz.prog 69 #[.pointer (some ⟨S, 0, none⟩), .int .u8 (nv : Int)] u fun e w' => ∃ o : Nat, e = .returned (.int .u8 (o : Int)) ∧ ByLev M nv o ∧ Below u.heap.size u w') := fun {u} su => byLevels_any su nv hv
  have KW : Aside (∀ {u : World} {o z : Nat}, St u S F0 M → ByLev M m o → ByLev M nv z → Calls Tryz.prog 70 #[cutV S o z f, .int .u32 (a : Int)] u (LeftQ S F0 u M 0 a (Q (M.tbl a)))) := fun {u o z} su bo bz => walkq_any i hf (j o z) _ 0 (Nat.le_refl _) u F0 M a rfl su bo bz ha (Nat.zero_le _)
  unfold cutV at KW
  have hmn : min M.n 8 = M.n := by omega
  have n8i : (M.n : Int) ≤ 8 := by omega
  clear ha hm n8 i j
  go_enter Tryz.func42, Tryz.ntmps42
  go_upto_region 6 with (first
    | (go_at_call 53; refine K1.mono ?_; clear K1; rintro e w ⟨rfl, rfl⟩)
    | (go_at_call 54; refine K2.mono ?_; clear K2; rintro e w ⟨rfl, rfl⟩)
    | (go_at_call 69; refine KB.mono ?_; clear KB; rintro e w1 ⟨o, rfl, bo, b1⟩; have s1 := s.below b1; have KC := KB2.out s1; have boA : Aside (ByLev M m o) := bo; clear bo)
    | (go_at_call 69; refine KC.mono ?_; clear KC; rintro e w2 ⟨z, rfl, bz, b2⟩; have s2 := s1.below b2; have bzA : Aside (ByLev M nv z) := bz; clear bz))
  have i4 := IsC.new w2 S o z f
  have B4 := nb w2 (.cells #[.pointer (some ⟨S, 0, none⟩), .int .u8 (o : Int), .int .u8 (z : Int), .func (.func f) #[] #[]] 90)
  have s4 := s2.below B4
  have K5 := KW.out s4 boA.out bzA.out
  have B4A : Aside (Below w.heap.size w (w2.alloc (.cells #[.pointer (some ⟨S, 0, none⟩), .int .u8 (o : Int), .int .u8 (z : Int), .func (.func f) #[] #[]] 90))) := Rf.below_far (Rf.below_far b1 b2) B4
  generalize w2.alloc (.cells #[.pointer (some ⟨S, 0, none⟩), .int .u8 (o : Int), .int .u8 (z : Int), .func (.func f) #[] #[]] 90) = w4 at i4 s4 K5 B4A ⊢
  generalize w2.heap.size = g at i4 ⊢
  obtain ⟨C0, C1, C2, C3⟩ := i4.cells
  clear KW KB2 B4 s1 s2 b1 b2
  go_wp2_with (first
    | (go_at_call 70; refine K5.mono ?_; clear K5; rintro e w8 ⟨p, er, M8, F8, rfl, t8, c8, s8, b8⟩; have tA : Aside (ToldQ M 0 (Q (M.tbl a)) p er M8) := t8; have cA : Aside (a < 2 → p = a ∧ er = 0) := c8; clear t8 c8))
  go_ret2
  exact ⟨p, er, M8, F8, rfl, tA.out, cA.out, s8, (Wf.of_below B4A.out F0).trans b8⟩
set_option maxHeartbeats 1000000 in
theorem answerq_node (x y : Int) (fn : Value) (s : St w S F0 M) (ha : a < 4294967296) (no : ¬ M.isNode a) :
    Calls Tryz.prog 42 #[.pointer (some ⟨S, 0, none⟩), .int .u32 (a : Int), .int .u8 x, .int .u8 y, fn] w fun e w' => e = .returned (.tuple #[.int .u32 0, .int .i64 101]) ∧ w' = w := by
  have K1 := s_is s a ha
  rw [Mdl.nodeB_false no] at K1
  go_enter Tryz.func42, Tryz.ntmps42
  go_wp2_with (first
    | (go_at_call 53; refine K1.mono ?_; clear K1; rintro e w ⟨rfl, rfl⟩))
  go_ret2
  exact ⟨rfl, rfl⟩
set_option maxHeartbeats 1000000 in
theorem answerq_var (y : Int) (fn : Value) (s : St w S F0 M) (ha : M.isNode a) (hm : 2 ^ M.n ≤ m) :
    Calls Tryz.prog 42 #[.pointer (some ⟨S, 0, none⟩), .int .u32 (a : Int), .int .u8 (m : Int), .int .u8 y, fn] w fun e w' => e = .returned (.tuple #[.int .u32 0, .int .i64 40]) ∧ w' = w := by
  have ok := s.ok
  have n8 := ok.le8
  have m0 := mask_out hm
  have K1 := s_is s a (by have := Mdl.isNode_lt ok ha; omega)
  rw [Mdl.nodeB_true ha] at K1
  have K2 := s_vars s
  have hmn : min M.n 8 = M.n := by omega
  have n8i : (M.n : Int) ≤ 8 := by omega
  clear ha hm n8
  go_enter Tryz.func42, Tryz.ntmps42
  go_wp2_with (first
    | (go_at_call 53; refine K1.mono ?_; clear K1; rintro e w ⟨rfl, rfl⟩)
    | (go_at_call 54; refine K2.mono ?_; clear K2; rintro e w ⟨rfl, rfl⟩))
  go_ret2
  exact ⟨rfl, rfl⟩
theorem call_either (vs : Array Value) (w : World) : (callFunc 43 vs).run Tryz.prog w = .ok (.enter 43 vs) w := by
  have h := Tryz.func43
  go_simp
theorem exq_op (s : St w S F0 M) (ha : M.isNode a) (hm : m < 2 ^ M.n) :
    Calls Tryz.prog 14 #[.pointer (some ⟨S, 0, none⟩), .int .u32 (a : Int), .int .u8 (m : Int)] w (LeftQ S F0 w M 0 a (exQ m (M.tbl a))) := by
  have K : Calls Tryz.prog 42 #[.pointer (some ⟨S, 0, none⟩), .int .u32 (a : Int), .int .u8 (m : Int), .int .u8 0, .func (.func 43) #[] #[]] w _ := answerq_any (nv := 0) (ex_is m) call_either (fun o z => either_join S o z m 0 M.n) s ha hm (by omega)
  go_enter Tryz.func14, Tryz.ntmps14
  go_wp2_with (first
    | (go_at_call 42; refine K.mono ?_; clear K; rintro e w8 ⟨p, er, M8, F8, rfl, t8, c8, s8, b8⟩; have tA : Aside (ToldQ M 0 (exQ m (M.tbl a)) p er M8) := t8; have cA : Aside (a < 2 → p = a ∧ er = 0) := c8; clear t8 c8))
  go_ret2
  exact ⟨p, er, M8, F8, rfl, tA.out, cA.out, s8, b8⟩
theorem exq_node (x : Int) (s : St w S F0 M) (ha : a < 4294967296) (no : ¬ M.isNode a) :
    Calls Tryz.prog 14 #[.pointer (some ⟨S, 0, none⟩), .int .u32 (a : Int), .int .u8 x] w fun e w' => e = .returned (.tuple #[.int .u32 0, .int .i64 101]) ∧ w' = w := by
  have K := answerq_node x 0 (.func (.func 43) #[] #[]) s ha no
  go_enter Tryz.func14, Tryz.ntmps14
  go_wp2_with (first
    | (go_at_call 42; refine K.mono ?_; clear K; rintro e w ⟨rfl, rfl⟩))
  go_ret2
  exact ⟨rfl, rfl⟩
theorem exq_var (s : St w S F0 M) (ha : M.isNode a) (hm : 2 ^ M.n ≤ m) :
    Calls Tryz.prog 14 #[.pointer (some ⟨S, 0, none⟩), .int .u32 (a : Int), .int .u8 (m : Int)] w fun e w' => e = .returned (.tuple #[.int .u32 0, .int .i64 40]) ∧ w' = w := by
  have K := answerq_var 0 (.func (.func 43) #[] #[]) s ha hm
  go_enter Tryz.func14, Tryz.ntmps14
  go_wp2_with (first
    | (go_at_call 42; refine K.mono ?_; clear K; rintro e w ⟨rfl, rfl⟩))
  go_ret2
  exact ⟨rfl, rfl⟩
theorem call_both (vs : Array Value) (w : World) : (callFunc 44 vs).run Tryz.prog w = .ok (.enter 44 vs) w := by
  have h := Tryz.func44
  go_simp
theorem allq_op (s : St w S F0 M) (ha : M.isNode a) (hm : m < 2 ^ M.n) :
    Calls Tryz.prog 15 #[.pointer (some ⟨S, 0, none⟩), .int .u32 (a : Int), .int .u8 (m : Int)] w (LeftQ S F0 w M 0 a (allQ m (M.tbl a))) := by
  have K : Calls Tryz.prog 42 #[.pointer (some ⟨S, 0, none⟩), .int .u32 (a : Int), .int .u8 (m : Int), .int .u8 0, .func (.func 44) #[] #[]] w _ := answerq_any (nv := 0) (all_is m) call_both (fun o z => both_join S o z m 0 M.n) s ha hm (by omega)
  go_enter Tryz.func15, Tryz.ntmps15
  go_wp2_with (first
    | (go_at_call 42; refine K.mono ?_; clear K; rintro e w8 ⟨p, er, M8, F8, rfl, t8, c8, s8, b8⟩; have tA : Aside (ToldQ M 0 (allQ m (M.tbl a)) p er M8) := t8; have cA : Aside (a < 2 → p = a ∧ er = 0) := c8; clear t8 c8))
  go_ret2
  exact ⟨p, er, M8, F8, rfl, tA.out, cA.out, s8, b8⟩
theorem allq_node (x : Int) (s : St w S F0 M) (ha : a < 4294967296) (no : ¬ M.isNode a) :
    Calls Tryz.prog 15 #[.pointer (some ⟨S, 0, none⟩), .int .u32 (a : Int), .int .u8 x] w fun e w' => e = .returned (.tuple #[.int .u32 0, .int .i64 101]) ∧ w' = w := by
  have K := answerq_node x 0 (.func (.func 44) #[] #[]) s ha no
  go_enter Tryz.func15, Tryz.ntmps15
  go_wp2_with (first
    | (go_at_call 42; refine K.mono ?_; clear K; rintro e w ⟨rfl, rfl⟩))
  go_ret2
  exact ⟨rfl, rfl⟩
theorem allq_var (s : St w S F0 M) (ha : M.isNode a) (hm : 2 ^ M.n ≤ m) :
    Calls Tryz.prog 15 #[.pointer (some ⟨S, 0, none⟩), .int .u32 (a : Int), .int .u8 (m : Int)] w fun e w' => e = .returned (.tuple #[.int .u32 0, .int .i64 40]) ∧ w' = w := by
  have K := answerq_var 0 (.func (.func 44) #[] #[]) s ha hm
  go_enter Tryz.func15, Tryz.ntmps15
  go_wp2_with (first
    | (go_at_call 42; refine K.mono ?_; clear K; rintro e w ⟨rfl, rfl⟩))
  go_ret2
  exact ⟨rfl, rfl⟩
theorem call_fixed (vs : Array Value) (w : World) : (callFunc 45 vs).run Tryz.prog w = .ok (.enter 45 vs) w := by
  have h := Tryz.func45
  go_simp
theorem resq_op (s : St w S F0 M) (ha : M.isNode a) (hm : m < 2 ^ M.n) (hv : nv < 256) :
    Calls Tryz.prog 16 #[.pointer (some ⟨S, 0, none⟩), .int .u32 (a : Int), .int .u8 (m : Int), .int .u8 (nv : Int)] w (LeftQ S F0 w M 0 a (resQ m nv (M.tbl a))) := by
  have K : Calls Tryz.prog 42 #[.pointer (some ⟨S, 0, none⟩), .int .u32 (a : Int), .int .u8 (m : Int), .int .u8 (nv : Int), .func (.func 45) #[] #[]] w _ := answerq_any (nv := nv) (res_is m nv hv) call_fixed (fun o z => fixed_join S o z m nv M.n hv) s ha hm hv
  go_enter Tryz.func16, Tryz.ntmps16
  go_wp2_with (first
    | (go_at_call 42; refine K.mono ?_; clear K; rintro e w8 ⟨p, er, M8, F8, rfl, t8, c8, s8, b8⟩; have tA : Aside (ToldQ M 0 (resQ m nv (M.tbl a)) p er M8) := t8; have cA : Aside (a < 2 → p = a ∧ er = 0) := c8; clear t8 c8))
  go_ret2
  exact ⟨p, er, M8, F8, rfl, tA.out, cA.out, s8, b8⟩
theorem resq_node (x : Int) (y : Int) (s : St w S F0 M) (ha : a < 4294967296) (no : ¬ M.isNode a) :
    Calls Tryz.prog 16 #[.pointer (some ⟨S, 0, none⟩), .int .u32 (a : Int), .int .u8 x, .int .u8 y] w fun e w' => e = .returned (.tuple #[.int .u32 0, .int .i64 101]) ∧ w' = w := by
  have K := answerq_node x y (.func (.func 45) #[] #[]) s ha no
  go_enter Tryz.func16, Tryz.ntmps16
  go_wp2_with (first
    | (go_at_call 42; refine K.mono ?_; clear K; rintro e w ⟨rfl, rfl⟩))
  go_ret2
  exact ⟨rfl, rfl⟩
theorem resq_var (y : Int) (s : St w S F0 M) (ha : M.isNode a) (hm : 2 ^ M.n ≤ m) :
    Calls Tryz.prog 16 #[.pointer (some ⟨S, 0, none⟩), .int .u32 (a : Int), .int .u8 (m : Int), .int .u8 y] w fun e w' => e = .returned (.tuple #[.int .u32 0, .int .i64 40]) ∧ w' = w := by
  have K := answerq_var y (.func (.func 45) #[] #[]) s ha hm
  go_enter Tryz.func16, Tryz.ntmps16
  go_wp2_with (first
    | (go_at_call 42; refine K.mono ?_; clear K; rintro e w ⟨rfl, rfl⟩))
  go_ret2
  exact ⟨rfl, rfl⟩
end

/-! ## Over a store with known handles -/
section
variable {W w w' : World} {S n r b : Nat} {l : Kl} {x m nv : Nat} {X Y : Nat → Bool}
theorem leftq_x {F : Nat → Prop} {M : Mdl} {h : Nat} {e : Ending} (s : St w S F M) (e1 : M.n = n) (e2 : M.room = r) (e3 : M.up ≤ b) (q : Kn M l) (B : Below W.heap.size W w) (f : ∀ k, F k → W.heap.size ≤ k) (c : Nat) (hc : uq (n - 2) ≤ c) (hb : b + c + 19 ≤ r) (eX : Eqt Y X) (h : LeftQ S F w M 0 h Y e w') : LeftX W S n r l (b + c) X w e w' := by
  obtain ⟨z, er, M', F', rfl, t, _, s', g⟩ := h
  rw [← e1] at hc
  rcases t with ⟨rfl, t⟩ | ⟨rfl, rfl, t⟩
  · have u := t.up
    refine ⟨z, rfl, ⟨F', M', s', by rw [t.grew.n, e1], by rw [t.grew.room, e2], ?_, (q.grew s.ok t.grew).cons t.node (t.tbl.trans eX), Wf.far B g B.size f, g.after B.size f⟩, Out.of s g⟩
    rw [Nat.sub_zero] at u
    omega
  · exact (t.never s'.ok (by rw [Nat.sub_zero]; omega)).elim
theorem ex_x (h : Sx W w S n r l b) (hx : (x, X) ∈ l) (hm : m < 2 ^ n) (c : Nat) (hc : uq (n - 2) ≤ c) (hb : b + c + 19 ≤ r) :
    Calls Tryz.prog 14 #[.pointer (some ⟨S, 0, none⟩), .int .u32 (x : Int), .int .u8 (m : Int)] w (LeftX W S n r l (b + c) (exQ m X) w) := by
  obtain ⟨F, M, s, e1, e2, e3, q, B, f⟩ := h
  obtain ⟨nx, ex⟩ := q _ hx
  exact (exq_op s nx (by rw [e1]; exact hm)).mono fun e w' h => leftq_x s e1 e2 e3 q B f c hc hb ((ex_is m).congr _ _ ex) h
theorem all_x (h : Sx W w S n r l b) (hx : (x, X) ∈ l) (hm : m < 2 ^ n) (c : Nat) (hc : uq (n - 2) ≤ c) (hb : b + c + 19 ≤ r) :
    Calls Tryz.prog 15 #[.pointer (some ⟨S, 0, none⟩), .int .u32 (x : Int), .int .u8 (m : Int)] w (LeftX W S n r l (b + c) (allQ m X) w) := by
  obtain ⟨F, M, s, e1, e2, e3, q, B, f⟩ := h
  obtain ⟨nx, ex⟩ := q _ hx
  exact (allq_op s nx (by rw [e1]; exact hm)).mono fun e w' h => leftq_x s e1 e2 e3 q B f c hc hb ((all_is m).congr _ _ ex) h
theorem res_x (h : Sx W w S n r l b) (hx : (x, X) ∈ l) (hm : m < 2 ^ n) (hv : nv < 256) (c : Nat) (hc : uq (n - 2) ≤ c) (hb : b + c + 19 ≤ r) :
    Calls Tryz.prog 16 #[.pointer (some ⟨S, 0, none⟩), .int .u32 (x : Int), .int .u8 (m : Int), .int .u8 (nv : Int)] w (LeftX W S n r l (b + c) (resQ m nv X) w) := by
  obtain ⟨F, M, s, e1, e2, e3, q, B, f⟩ := h
  obtain ⟨nx, ex⟩ := q _ hx
  exact (resq_op s nx (by rw [e1]; exact hm) hv).mono fun e w' h => leftq_x s e1 e2 e3 q B f c hc hb ((res_is m nv hv).congr _ _ ex) h
theorem ex_varx (h : Sx W w S n r l b) (hx : (x, X) ∈ l) (hm : 2 ^ n ≤ m) :
    Calls Tryz.prog 14 #[.pointer (some ⟨S, 0, none⟩), .int .u32 (x : Int), .int .u8 (m : Int)] w fun e w' => e = .returned (.tuple #[.int .u32 0, .int .i64 40]) ∧ w' = w := by
  obtain ⟨F, M, s, e1, e2, e3, q, B, f⟩ := h
  exact exq_var s (q _ hx).1 (by rw [e1]; exact hm)
theorem all_nodex (h : Sx W w S n r l b) (y : Int) (hx : x < 4294967296) (no : 2 + r ≤ x) :
    Calls Tryz.prog 15 #[.pointer (some ⟨S, 0, none⟩), .int .u32 (x : Int), .int .u8 y] w fun e w' => e = .returned (.tuple #[.int .u32 0, .int .i64 101]) ∧ w' = w := by
  obtain ⟨F, M, s, e1, e2, e3, q, B, f⟩ := h
  exact allq_node y s hx fun h => by have := s.nodes h; omega
end
end Go.Proofs.YtlhanbjjlifjjaaGreat
