/-
  Package build over a store with known handles; pairs of bytes held against one another; the statements' own look.
-/
import Derived.Test.YtfaccdnnjkkcfaaGreatDoorBdU
import Derived.Test.YtfaccdnnjkkcfaaGreatDoorCtX
namespace Go.Proofs.YtfaccdnnjkkcfaaGreatDoor
open Go Go.RowKit
open Rf (fixAt fixF tab word same IsTab Cols supUpto countUpto)

/-! ## Over known handles -/
section
variable {W w : World} {S n r b x : Nat} {l : Kl} {X : Nat → Bool}
theorem Sx.cols (h : Sx W w S n r l b) (hC : Cols W) : Cols w := hC.kept h.base
theorem from_x (hC : Cols W) (h : Sx W w S 8 r l b) (hb : b + 82 ≤ r) (G : Nat → Bool) :
    Calls Tryz.prog 12 #[.pointer (some ⟨S, 0, none⟩), tab G] w (LeftX W S 8 r l (b + 63) G w) := by
  have hC' := h.cols hC
  obtain ⟨F, M, s, e1, e2, e3, q, B, f⟩ := h
  have nF : ¬ F 0 := fun h0 => by have := f 0 h0; have := hC.1; omega
  refine (from_op s hC' nF (Dep.all s.ok e1 G) (by unfold Much; rw [e1, e2]; show M.up + (2 ^ 6 - 1) + 19 ≤ r; omega)).mono ?_
  rintro e w' ⟨z, M', F', rfl, g, s', k⟩
  have u := g.up
  rw [e1] at u
  exact ⟨z, rfl, ⟨F', M', s', g.grew.n.trans e1, g.grew.room.trans e2, by have : M'.up ≤ M.up + (2 ^ 6 - 1) := u; omega, (q.grew s.ok g.grew).cons g.node g.tbl, Wf.far B k B.size f, k.after B.size f⟩, Out.of s k⟩
theorem cube_x (h : Sx W w S 8 r l b) (hb : b + 82 ≤ r) (m p : Nat) (hm : m < 256) (hp : p < 256) :
    Calls Tryz.prog 20 #[.pointer (some ⟨S, 0, none⟩), .int .u8 (m : Int), .int .u8 (p : Int)] w (LeftX W S 8 r l (b + 63) (cubeF m p) w) := by
  obtain ⟨F, M, s, e1, e2, e3, q, B, f⟩ := h
  have o := s.ok
  have ll := Mdl.len_le o
  have hm' : m < 2 ^ M.n := by rw [e1]; exact hm
  refine (cube_op s hm hp hm' (by omega)).mono ?_
  rintro e w' ⟨z, M', F', rfl, c, s', k⟩
  have g := c.got
  have u := g.up
  rw [e1] at u
  have t := g.tbl
  rw [cubeL_all o hm'] at t
  exact ⟨z, rfl, ⟨F', M', s', g.grew.n.trans e1, g.grew.room.trans e2, by have : M'.up ≤ M.up + (2 ^ 6 - 1) := u; omega, (q.grew s.ok g.grew).cons g.node t, Wf.far B k B.size f, k.after B.size f⟩, Out.of s k⟩
theorem bmust_x (z : Nat) (w : World) : Calls Tryz.prog 25 #[.int .u32 (z : Int), .int .i64 0] w fun e w' => e = .returned (.int .u32 (z : Int)) ∧ w' = w := by
  go_enter Tryz.func25, Tryz.ntmps25
  go_wp2_with fail
  go_ret
  exact ⟨rfl, rfl⟩
end

/-! ## Pairs -/
theorem size_u8 : (sizeOf 5).run Tryz.prog = fun w => .ok 1 w := by
  funext w
  have h : (Tryz.prog.info? 5).map (·.size) = some 1 := by kernel_rfl
  obtain ⟨i, hi, hs⟩ := Option.map_eq_some_iff.1 h
  simp [sizeOf, typeInfo, hi, hs]
theorem part_u8 (xs : Array Value) (k : Nat) (a : Int) (hx : xs[k]? = some (.int .u8 a)) (w : World) : (part 5 xs k).run Tryz.prog w = .ok (.int .u8 a) w := by
  simp [part, hx]
theorem equal_pair (a0 a1 b0 b1 : Int) (w : World) :
    (Op.equalIn 10000 49 (.agg #[.int .u8 a0, .int .u8 a1]) (.agg #[.int .u8 b0, .int .u8 b1])).run Tryz.prog w = .ok (a0 == b0 && a1 == b1) w := by
  have hi : ∀ (a b : Int) (w : World), (Op.equalIn 9999 5 (.int .u8 a) (.int .u8 b)).run Tryz.prog w = .ok (a == b) w := fun a b w => run_equalIn_int w 9998 5 .u8 .u8 a b Tryz.underlying5
  rw [show (10000 : Nat) = 9999 + 1 from rfl]
  generalize 9999 = d at hi
  have h1 := size_u8
  simp only [Op.equalIn, Sem.run_bind, run_underlying Tryz.underlying49, Result.andThen_ok, h1]
  have hr : (List.range' 0 2 1) = [0, 1] := rfl
  rw [Std.Legacy.Range.forIn_eq_forIn_range', show Std.Legacy.Range.size [:2] = 2 from rfl, hr]
  have p0 := fun w => part_u8 #[.int .u8 a0, .int .u8 a1] 0 a0 rfl w
  have p1 := fun w => part_u8 #[.int .u8 a0, .int .u8 a1] 1 a1 rfl w
  have q0 := fun w => part_u8 #[.int .u8 b0, .int .u8 b1] 0 b0 rfl w
  have q1 := fun w => part_u8 #[.int .u8 b0, .int .u8 b1] 1 b1 rfl w
  simp only [List.forIn_cons, List.forIn_nil, Sem.run_bind, Nat.mul_one, p0, q0, hi, Result.andThen_ok, Sem.run_ite, Sem.run_pure]
  cases e0 : a0 == b0 <;> cases e1 : a1 == b1 <;> simp [Result.andThen, p1, q1, hi, e1]

/-! ## The statements' own look -/
theorem cubes_known {M : Mdl} (o : M.Ok) {x : Nat} (n3 : M.n = 3) (v3 : M.v = (Mdl.empty 3 100).v) (xn : M.isNode x) (e : Eqt (M.tbl x) (cubeF 5 1)) : pathsL M x = [(5, 1)] := by
  rw [cubesR_all o xn e, n3, v3]
  kernel_rfl
set_option maxRecDepth 100000 in
set_option maxHeartbeats 2000000 in
theorem bknown_any (W : World) (hC : Cols W) :
    Calls Tryz.prog 8 #[] W fun e w' => e = .returned (.bool true) ∧ Below W.heap.size W w' := by
  have K1 : Calls Tryz.prog 9 #[.int .i64 3, .int .i64 100] W _ := s_new 3 100 W (by omega) (by omega) (by omega) (by omega)
  have oeA : Aside (Mdl.empty 3 100).Ok := Mdl.empty_ok (n := 3) (room := 100) (by omega) (by omega)
  have KV : Aside (∀ (u : World) (S : Nat) (F : Nat → Prop), St u S F (Mdl.empty 3 100) → Calls Tryz.prog 20 #[.pointer (some ⟨S, 0, none⟩), .int .u8 5, .int .u8 1] u fun e w' => ∃ (a : Nat) (M : Mdl) (F' : Nat → Prop), e = .returned (.tuple #[.int .u32 (a : Int), .int .i64 0]) ∧ Aside (Got (Mdl.empty 3 100) 0 (cubeF 5 1) a M) ∧ St w' S F' M ∧ Wf F F' u w') := fun u S F su => by
    have : Calls Tryz.prog 20 #[.pointer (some ⟨S, 0, none⟩), .int .u8 5, .int .u8 1] u _ := cube_op su (m := 5) (q := 1) (by omega) (by omega) (by decide) (by decide)
    refine this.mono ?_
    rintro e w' ⟨a, M', F', rfl, c, s', g⟩
    have := c.got
    rw [cubeL_all oeA.out (by decide)] at this
    exact ⟨a, M', F', rfl, this, s', g⟩
  have hCA : Aside (Cols W) := hC
  have big : Aside (2 ^ 3 ≤ supUpto (Rf.M 3) 8) := Nat.le_of_eq (show 2 ^ 3 = supUpto (Rf.M 3) 8 by kernel_rfl)
  clear hC
  go_enter Tryz.func8, Tryz.ntmps8
  go_upto_region 5 with (first
    | (go_at_call 9; refine K1.mono ?_; clear K1; rintro e w1 ⟨S, F1, rfl, s1, b1, f1⟩; have K2 := KV.out w1 S F1 s1)
    | (go_at_call 20; refine K2.mono ?_; clear K2; rintro e w2 ⟨a, M, F2, rfl, g2, s2, wf2⟩))
  have B2 : Aside (Below W.heap.size W w2) := Wf.far b1 wf2 b1.size f1
  have n3 : M.n = 3 := g2.out.grew.n
  have v3 : M.v = (Mdl.empty 3 100).v := g2.out.grew.v
  have r100 : M.room = 100 := g2.out.grew.room
  have pl := cubes_known s2.ok n3 v3 g2.out.node g2.out.tbl
  have K3 : Calls Tryz.prog 15 #[.pointer (some ⟨S, 0, none⟩), .int .u32 (a : Int)] w2 fun e w' => ∃ (g cap : Nat), e = .returned (.tuple #[.slice (some ⟨g, 0, none⟩) 1 cap, .int .i64 0]) ∧ (g < w'.heap.size ∧ w'.cell? ⟨g, 0, none⟩ = some (.int .u8 5) ∧ w'.cell? ⟨g, 1, none⟩ = some (.int .u8 1)) ∧ Below w2.heap.size w2 w' := by
    have := cubes_op s2 g2.out.node
    rw [pl] at this
    refine this.mono ?_
    rintro e w' ⟨ad, cap, rfl, own, b⟩
    obtain ⟨g, rfl, c0, c1⟩ := own.read (i := 0) (by decide)
    exact ⟨g, cap, rfl, ⟨(own.block _ rfl).2, c0, c1⟩, b⟩
  have K4 : ∀ u, Calls Tryz.prog 35 #[.int .i64 3] u fun e w' => e = .returned (tab (Rf.M 3)) ∧ Below u.heap.size u w' := fun u => Rf.var_any 3 (by omega) u
  have K5 : Aside (∀ u, Below w2.heap.size w2 u → Calls Tryz.prog 12 #[.pointer (some ⟨S, 0, none⟩), tab (Rf.M 3)] u fun e w' => e = .returned (.tuple #[.int .u32 0, .int .i64 40]) ∧ Below u.heap.size u w') := fun u k => from_bad (s2.below k) (Rf.M 3) (hCA.out.kept (Rf.below_far B2.out k)) (by rw [n3]; exact big.out)
  have K6 : Aside (∀ u, Below w2.heap.size w2 u → Calls Tryz.prog 14 #[.pointer (some ⟨S, 0, none⟩), .int .u32 999] u fun e w' => e = .returned (.tuple #[tab (fun _ => false), .int .i64 101]) ∧ Below u.heap.size u w') := fun u k => bfunc_bad (x := 999) (s2.below k) (by omega) fun h => by have := s2.nodes h; omega
  clear b1 s1 f1 wf2 g2 n3 r100 v3 pl KV s2
  go_upto_region 8 with (first
    | (go_at_call 15; refine K3.mono ?_; clear K3; rintro e w3 ⟨g, cap, rfl, c3, b3⟩)
    | (go_at_call 35; refine (K4 _).mono ?_; clear K4; rintro e w4 ⟨rfl, b4⟩; have b4' := Rf.below_far b3 b4; have K7 := K5.out w4 b4')
    | (go_at_call 12; refine K7.mono ?_; clear K7; rintro e w5 ⟨rfl, b5⟩; have b5' := Rf.below_far b4' b5; have K8 := K6.out w5 b5'; unfold tab at K8)
    | (go_at_call 14; refine K8.mono ?_; clear K8; rintro e w6 ⟨rfl, b6⟩; have b6' := Rf.below_far b5' b6))
  have k36 := Rf.below_far (Rf.below_far b4 b5) b6
  have k37 := Rf.below_far k36 (nb w6 (.cells #[.int .u64 (word (fun _ => false) 0 : Int), .int .u64 (word (fun _ => false) 1 : Int), .int .u64 (word (fun _ => false) 2 : Int), .int .u64 (word (fun _ => false) 3 : Int)] 24))
  have B7 : Aside (Below W.heap.size W (w6.alloc (.cells #[.int .u64 (word (fun _ => false) 0 : Int), .int .u64 (word (fun _ => false) 1 : Int), .int .u64 (word (fun _ => false) 2 : Int), .int .u64 (word (fun _ => false) 3 : Int)] 24))) := Rf.below_far (Rf.below_far B2.out b6') (nb w6 _)
  generalize w6.alloc (.cells #[.int .u64 (word (fun _ => false) 0 : Int), .int .u64 (word (fun _ => false) 1 : Int), .int .u64 (word (fun _ => false) 2 : Int), .int .u64 (word (fun _ => false) 3 : Int)] 24) = w7 at k37 B7 ⊢
  have q0 : w7.cell? ⟨g, 0, none⟩ = some (.int .u8 5) := (k37.cell c3.1).trans c3.2.1
  have q1 : w7.cell? ⟨g, 1, none⟩ = some (.int .u8 1) := (k37.cell c3.1).trans c3.2.2
  have heq := fun w => equal_pair 5 1 5 1 w
  clear k36 k37 c3 b3 b4 b4' b5 b5' b6 b6' K5 K6 B2 big hCA oeA
  go_wp2_with fail
  go_ret
  exact ⟨rfl, B7.out⟩
end Go.Proofs.YtfaccdnnjkkcfaaGreatDoor
