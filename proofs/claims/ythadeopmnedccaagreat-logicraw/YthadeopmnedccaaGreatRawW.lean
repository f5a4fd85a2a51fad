/-
  LogicRaw, walked.
-/
import Derived.Test.YthadeopmnedccaaGreatLgd
import Derived.Deep.CutRange
namespace Go.Proofs.YthadeopmnedccaaGreat
open Go Go.RowKit

theorem cst_val {F : Nat → Bool} (c : Cst F) : ∃ v, Eqt F (fun _ => v) := by
  rcases c with c | c
  · exact ⟨false, c⟩
  · exact ⟨true, c⟩
theorem cst_of {F : Nat → Bool} (v : Bool) (h : Eqt F (fun _ => v)) : Cst F := by
  cases v with
  | false => exact .inl h
  | true => exact .inr h
theorem ans_cst {M : Mdl} {k a b c : Nat} (hk : k < 5) (ha : Cst (M.tbl a)) (hb : 0 < k → Cst (M.tbl b)) (hc : 3 < k → Cst (M.tbl c)) : Cst (ans M (opK k) a b c) := by
  obtain ⟨va, ea⟩ := cst_val ha
  rcases lt5 hk with rfl | rfl | rfl | rfl | rfl
  · exact cst_of (!va) fun x hx => by show (!M.tbl a x) = _; rw [ea x hx]
  · obtain ⟨vb, eb⟩ := cst_val (hb (by omega))
    exact cst_of (va && vb) fun x hx => by show (M.tbl a x && M.tbl b x) = _; rw [ea x hx, eb x hx]
  · obtain ⟨vb, eb⟩ := cst_val (hb (by omega))
    exact cst_of (va || vb) fun x hx => by show (M.tbl a x || M.tbl b x) = _; rw [ea x hx, eb x hx]
  · obtain ⟨vb, eb⟩ := cst_val (hb (by omega))
    exact cst_of (xor va vb) fun x hx => by show (xor (M.tbl a x) (M.tbl b x)) = _; rw [ea x hx, eb x hx]
  · obtain ⟨vb, eb⟩ := cst_val (hb (by omega))
    obtain ⟨vc, ec⟩ := cst_val (hc (by omega))
    exact cst_of (if va then vb else vc) fun x hx => by show (if M.tbl a x then M.tbl b x else M.tbl c x) = _; rw [ea x hx, eb x hx, ec x hx]
theorem got_none {M M' : Mdl} {F : Nat → Bool} {x : Nat} (o : M.Ok) (e : M.hs = []) (d : Dep M 0 F) (c : Cst F) (g : Got M 0 F x M') : M'.hs = [] := by
  cases h : M'.hs with
  | nil => rfl
  | cons y l =>
    exfalso
    have hy : y ∈ M'.hs := by rw [h]; exact List.mem_cons_self
    rcases (g.has (M'.tbl y)).1 ⟨y, hy, Eqt.refl _⟩ with ⟨z, hz, _⟩ | p
    · rw [e] at hz; cases hz
    · exact Prt.not_cst o d c p

set_option maxRecDepth 100000 in
set_option maxHeartbeats 4000000 in
theorem raw_walk (a' b' c' z v : Int) (W : World) (wa : 0 ≤ a' ∧ a' ≤ 4294967295) (wb : 0 ≤ b' ∧ b' ≤ 4294967295) (wc : 0 ≤ c' ∧ c' ≤ 4294967295) (wz : 0 ≤ z) :
    Calls Tryz.prog 5 #[.int .u32 a', .int .u32 b', .int .u32 c', .int .u8 z, .int .i64 v] W fun e w' => e = .returned (.bool true) ∧ Below W.heap.size W w' := by
  obtain ⟨a, rfl⟩ : ∃ a : Nat, a' = (a : Int) := ⟨a'.toNat, by omega⟩
  obtain ⟨b, rfl⟩ : ∃ b : Nat, b' = (b : Int) := ⟨b'.toNat, by omega⟩
  obtain ⟨c, rfl⟩ : ∃ c : Nat, c' = (c : Int) := ⟨c'.toNat, by omega⟩
  have ha : a < 4294967296 := by omega
  have hb : b < 4294967296 := by omega
  have hc : c < 4294967296 := by omega
  obtain ⟨k, hk⟩ : ∃ k : Nat, z % 5 = (k : Int) := ⟨(z % 5).toNat, by omega⟩
  have k5 : k < 5 := by omega
  have hz : Int.tmod z 5 = z % 5 := Int.tmod_eq_emod_of_nonneg wz
  clear wa wb wc
  have e0 : Aside ((Mdl.empty 4 50).hs = []) := rfl
  have nn0 : Aside ((Mdl.empty 4 50).n = 4) := rfl
  have rr0 : Aside ((Mdl.empty 4 50).room = 50) := rfl
  have vv0 : Aside (∀ i, i < 4 → (Mdl.empty 4 50).v i = i) := fun i hi => if_pos hi
  have Kk := known_any W
  have hw5 : ∀ x : Nat, x < 5 → IntKind.i64.wrap (x : Int) = (x : Int) := fun x hx => by rw [IntKind.wrap_i64]; omega
  have hwk := hw5 k k5
  go_enter Tryz.func5, Tryz.ntmps5
  go_upto_region 8 with (first
    | (go_at_call 9; refine Kk.mono ?_; clear Kk; rintro e w1 ⟨rfl, b1⟩; have Kn : Calls Tryz.prog 10 #[.int .i64 4, .int .i64 50] w1 _ := s_new 4 50 w1 (by omega) (by omega) (by omega) (by omega))
    | (go_at_call 10; refine Kn.mono ?_; clear Kn; rintro e w2 ⟨S, F0, rfl, s2, b2, f2⟩))
  have B2 : Aside (Below W.heap.size W w2) := Rf.below_far b1 b2
  have f2' : Aside (∀ i, F0 i → W.heap.size ≤ i) := fun i hi => Nat.le_trans b1.size (f2 i hi)
  generalize hM : Mdl.empty 4 50 = M at s2 e0 nn0 rr0 vv0
  clear hM b1 b2 f2 hw5
  have KI := s_is s2
  obtain ⟨bd, hbd⟩ : ∃ bd : Bool, (!usedB M k a b c) = bd := ⟨_, rfl⟩
  have hbd : Aside ((!usedB M k a b c) = bd) := hbd
  go_cut [17] from 36 to 59 (fun sx w => sx = .bool bd ∧ w = w2)
  case first =>
    clear s2
    rcases lt5 k5 with rfl | rfl | rfl | rfl | rfl
    · skip
      by_cases na : M.isNode a
      · have da : M.nodeB a = true := Mdl.nodeB_true na
        have hb' : Aside (bd = false) := by show bd = false; rw [← hbd.out]; simp [usedB, da]
        go_wp2_with (first
          | (go_at_call 22; refine (KI _ (by assumption)).mono ?_; rintro e w5 ⟨rfl, e5⟩; subst w5))
        go_meet
        case rel => exact ⟨by rw [hb'.out], rfl⟩
      · have da : M.nodeB a = false := Mdl.nodeB_false na
        have hb' : Aside (bd = true) := by show bd = true; rw [← hbd.out]; simp [usedB, da]
        go_wp2_with (first
          | (go_at_call 22; refine (KI _ (by assumption)).mono ?_; rintro e w5 ⟨rfl, e5⟩; subst w5))
        go_meet
        case rel => exact ⟨by rw [hb'.out], rfl⟩
    · skip
      by_cases na : M.isNode a
      · have da : M.nodeB a = true := Mdl.nodeB_true na
        by_cases nb : M.isNode b
        · have db : M.nodeB b = true := Mdl.nodeB_true nb
          have hb' : Aside (bd = false) := by show bd = false; rw [← hbd.out]; simp [usedB, da, db]
          go_wp2_with (first
            | (go_at_call 22; refine (KI _ (by assumption)).mono ?_; rintro e w5 ⟨rfl, e5⟩; subst w5))
          go_meet
          case rel => exact ⟨by rw [hb'.out], rfl⟩
        · have db : M.nodeB b = false := Mdl.nodeB_false nb
          have hb' : Aside (bd = true) := by show bd = true; rw [← hbd.out]; simp [usedB, da, db]
          go_wp2_with (first
            | (go_at_call 22; refine (KI _ (by assumption)).mono ?_; rintro e w5 ⟨rfl, e5⟩; subst w5))
          go_meet
          case rel => exact ⟨by rw [hb'.out], rfl⟩
      · have da : M.nodeB a = false := Mdl.nodeB_false na
        have hb' : Aside (bd = true) := by show bd = true; rw [← hbd.out]; simp [usedB, da]
        go_wp2_with (first
          | (go_at_call 22; refine (KI _ (by assumption)).mono ?_; rintro e w5 ⟨rfl, e5⟩; subst w5))
        go_meet
        case rel => exact ⟨by rw [hb'.out], rfl⟩
    · skip
      by_cases na : M.isNode a
      · have da : M.nodeB a = true := Mdl.nodeB_true na
        by_cases nb : M.isNode b
        · have db : M.nodeB b = true := Mdl.nodeB_true nb
          have hb' : Aside (bd = false) := by show bd = false; rw [← hbd.out]; simp [usedB, da, db]
          go_wp2_with (first
            | (go_at_call 22; refine (KI _ (by assumption)).mono ?_; rintro e w5 ⟨rfl, e5⟩; subst w5))
          go_meet
          case rel => exact ⟨by rw [hb'.out], rfl⟩
        · have db : M.nodeB b = false := Mdl.nodeB_false nb
          have hb' : Aside (bd = true) := by show bd = true; rw [← hbd.out]; simp [usedB, da, db]
          go_wp2_with (first
            | (go_at_call 22; refine (KI _ (by assumption)).mono ?_; rintro e w5 ⟨rfl, e5⟩; subst w5))
          go_meet
          case rel => exact ⟨by rw [hb'.out], rfl⟩
      · have da : M.nodeB a = false := Mdl.nodeB_false na
        have hb' : Aside (bd = true) := by show bd = true; rw [← hbd.out]; simp [usedB, da]
        go_wp2_with (first
          | (go_at_call 22; refine (KI _ (by assumption)).mono ?_; rintro e w5 ⟨rfl, e5⟩; subst w5))
        go_meet
        case rel => exact ⟨by rw [hb'.out], rfl⟩
    · skip
      by_cases na : M.isNode a
      · have da : M.nodeB a = true := Mdl.nodeB_true na
        by_cases nb : M.isNode b
        · have db : M.nodeB b = true := Mdl.nodeB_true nb
          have hb' : Aside (bd = false) := by show bd = false; rw [← hbd.out]; simp [usedB, da, db]
          go_wp2_with (first
            | (go_at_call 22; refine (KI _ (by assumption)).mono ?_; rintro e w5 ⟨rfl, e5⟩; subst w5))
          go_meet
          case rel => exact ⟨by rw [hb'.out], rfl⟩
        · have db : M.nodeB b = false := Mdl.nodeB_false nb
          have hb' : Aside (bd = true) := by show bd = true; rw [← hbd.out]; simp [usedB, da, db]
          go_wp2_with (first
            | (go_at_call 22; refine (KI _ (by assumption)).mono ?_; rintro e w5 ⟨rfl, e5⟩; subst w5))
          go_meet
          case rel => exact ⟨by rw [hb'.out], rfl⟩
      · have da : M.nodeB a = false := Mdl.nodeB_false na
        have hb' : Aside (bd = true) := by show bd = true; rw [← hbd.out]; simp [usedB, da]
        go_wp2_with (first
          | (go_at_call 22; refine (KI _ (by assumption)).mono ?_; rintro e w5 ⟨rfl, e5⟩; subst w5))
        go_meet
        case rel => exact ⟨by rw [hb'.out], rfl⟩
    · skip
      by_cases na : M.isNode a
      · have da : M.nodeB a = true := Mdl.nodeB_true na
        by_cases nb : M.isNode b
        · have db : M.nodeB b = true := Mdl.nodeB_true nb
          by_cases nc : M.isNode c
          · have dc : M.nodeB c = true := Mdl.nodeB_true nc
            have hb' : Aside (bd = false) := by show bd = false; rw [← hbd.out]; simp [usedB, da, db, dc]
            go_wp2_with (first
              | (go_at_call 22; refine (KI _ (by assumption)).mono ?_; rintro e w5 ⟨rfl, e5⟩; subst w5))
            go_meet
            case rel => exact ⟨by rw [hb'.out], rfl⟩
          · have dc : M.nodeB c = false := Mdl.nodeB_false nc
            have hb' : Aside (bd = true) := by show bd = true; rw [← hbd.out]; simp [usedB, da, db, dc]
            go_wp2_with (first
              | (go_at_call 22; refine (KI _ (by assumption)).mono ?_; rintro e w5 ⟨rfl, e5⟩; subst w5))
            go_meet
            case rel => exact ⟨by rw [hb'.out], rfl⟩
        · have db : M.nodeB b = false := Mdl.nodeB_false nb
          have hb' : Aside (bd = true) := by show bd = true; rw [← hbd.out]; simp [usedB, da, db]
          go_wp2_with (first
            | (go_at_call 22; refine (KI _ (by assumption)).mono ?_; rintro e w5 ⟨rfl, e5⟩; subst w5))
          go_meet
          case rel => exact ⟨by rw [hb'.out], rfl⟩
      · have da : M.nodeB a = false := Mdl.nodeB_false na
        have hb' : Aside (bd = true) := by show bd = true; rw [← hbd.out]; simp [usedB, da]
        go_wp2_with (first
          | (go_at_call 22; refine (KI _ (by assumption)).mono ?_; rintro e w5 ⟨rfl, e5⟩; subst w5))
        go_meet
        case rel => exact ⟨by rw [hb'.out], rfl⟩
  case rest =>
    obtain ⟨rfl, rfl⟩ := hcut
    clear KI
    by_cases hu : usedK M k a b c
    · have hbf : bd = false := by rw [← hbd.out, usedB_true hu]; rfl
      subst hbf
      have KC := call_any k5 s2 hu
      have key : Aside (∀ {x : Nat} {er : Int} {M' : Mdl}, M'.Ok → Told M 0 (ans M (opK k) a b c) x er M' → er = 0 ∧ M'.hs = [] ∧ Mdl.Grew M M') := fun {x er M'} o' t => by
        have o := s2.ok
        have cn : ∀ {y : Nat}, M.isNode y → Cst (M.tbl y) := fun {y} hy => tbl_cst (hy.resolve_right fun h => by rw [e0.out] at h; cases h)
        rcases t with ⟨e, g⟩ | ⟨_, _, t⟩
        · refine ⟨e, ?_, g.grew⟩
          have hcst := ans_cst (M := M) (a := a) (b := b) (c := c) k5 (cn hu.1) (fun h => cn (hu.2.1 h)) (fun h => cn (hu.2.2 h))
          refine got_none o e0.out ?_ hcst g
          obtain ⟨vv, ev⟩ := cst_val hcst
          exact fun p q hp hq _ => by rw [ev p hp, ev q hq]
        · exact (t.never o' (by rw [show M.up = 0 by unfold Mdl.up; rw [e0.out]; rfl, nn0.out, rr0.out]; decide)).elim
      go_upto_region 10 with (first
        | (go_at_call 17; refine KC.mono ?_; clear KC; rintro e w3 ⟨x3, er, M3, F3, rfl, t3, s3, b3⟩; obtain ⟨er0, e3, g3⟩ := key.out s3.ok t3; subst er0; clear t3))
      have e3A : Aside (M3.hs = []) := e3
      have n3 : Aside (M3.n = 4) := g3.n.trans nn0.out
      have r3 : Aside (M3.room = 50) := g3.room.trans rr0.out
      have v3 : Aside (∀ i, i < 4 → M3.v i = i) := fun i hi => by rw [g3.v]; exact vv0.out i hi
      have up3 : Aside (M3.up = 0) := by show M3.up = 0; unfold Mdl.up; rw [e3]; rfl
      have B3 : Aside (Below W.heap.size W w3) := Wf.far B2.out b3 B2.out.size f2'.out
      have f3 : Aside (∀ i, F3 i → W.heap.size ≤ i) := b3.after B2.out.size f2'.out
      have KL := s_len s3
      rw [e3] at KL
      clear e3 g3 b3 s2 key hu
      by_cases hv : 0 ≤ v ∧ v < 4
      · obtain ⟨v0, v4⟩ := hv
        obtain ⟨i, rfl⟩ : ∃ i : Nat, v = (i : Int) := ⟨v.toNat, by omega⟩
        have hi4 : i < M3.n := by rw [n3.out]; omega
        have KV := var_op s3 hi4
        rw [v3.out i (by omega)] at KV
        have nv : ∀ {x : Nat} {er : Int} {M' : Mdl}, M'.Ok → Told M3 0 (Rf.M i) x er M' → er = 0 := fun {x er M'} o' t => by
          rcases t with ⟨e, _⟩ | ⟨_, _, t⟩
          · exact e
          · exact (t.never o' (by rw [up3.out, n3.out, r3.out]; decide)).elim
        have nvA : Aside (∀ {x : Nat} {er : Int} {M' : Mdl}, M'.Ok → Told M3 0 (Rf.M i) x er M' → er = 0) := nv
        clear nv hi4
        go_wp2_with (first
          | (go_at_call 14; refine KL.mono ?_; clear KL; rintro e w4 ⟨rfl, e4⟩; subst w4)
          | (go_at_call 23; refine KV.mono ?_; clear KV; rintro e w5 ⟨x5, er, M5, F5, rfl, t5, s5, b5⟩; have er0 := nvA.out s5.ok t5; subst er0; clear t5))
        go_ret
        exact ⟨rfl, Wf.far B3.out b5 B3.out.size f3.out⟩
      · have hv' : v < 0 ∨ (M3.n : Int) ≤ v := by rw [n3.out]; omega
        have KV := var_bad s3 v hv'
        by_cases v0 : v < 0
        · have h1 : ¬ 0 ≤ v := by omega
          have h1' : decide (0 ≤ v) = false := by simpa using h1
          clear hv hv'
          go_wp2_with (first
            | (go_at_call 14; refine KL.mono ?_; clear KL; rintro e w4 ⟨rfl, e4⟩; subst w4)
            | (go_at_call 23; refine KV.mono ?_; clear KV; rintro e w5 ⟨rfl, b5⟩))
          go_ret
          exact ⟨rfl, Rf.below_far B3.out b5⟩
        · have h1 : 0 ≤ v := by omega
          have h2 : ¬ v < 4 := by omega
          have h1' : decide (0 ≤ v) = true := by simpa using h1
          have h2' : decide (v < 4) = false := by simpa using h2
          clear hv hv'
          go_wp2_with (first
            | (go_at_call 14; refine KL.mono ?_; clear KL; rintro e w4 ⟨rfl, e4⟩; subst w4)
            | (go_at_call 23; refine KV.mono ?_; clear KV; rintro e w5 ⟨rfl, b5⟩))
          go_ret
          exact ⟨rfl, Rf.below_far B3.out b5⟩
    · have hbf : bd = true := by rw [← hbd.out, usedB_false hu]; rfl
      subst hbf
      have KC := call_bad k5 s2 ha hb hc hu
      go_upto_region 10 with (first
        | (go_at_call 17; refine KC.mono ?_; clear KC; rintro e w3 ⟨rfl, b3⟩))
      have s3 := s2.below b3
      have n3 := nn0
      have r3 := rr0
      have v3 := vv0
      have up3 : Aside (M.up = 0) := by show M.up = 0; unfold Mdl.up; rw [e0.out]; rfl
      have B3 : Aside (Below W.heap.size W w3) := Rf.below_far B2.out b3
      have f3 := f2'
      have KL := s_len s3
      rw [e0.out] at KL
      clear b3 s2 hu
      by_cases hv : 0 ≤ v ∧ v < 4
      · obtain ⟨v0, v4⟩ := hv
        obtain ⟨i, rfl⟩ : ∃ i : Nat, v = (i : Int) := ⟨v.toNat, by omega⟩
        have hi4 : i < M.n := by rw [n3.out]; omega
        have KV := var_op s3 hi4
        rw [v3.out i (by omega)] at KV
        have nv : ∀ {x : Nat} {er : Int} {M' : Mdl}, M'.Ok → Told M 0 (Rf.M i) x er M' → er = 0 := fun {x er M'} o' t => by
          rcases t with ⟨e, _⟩ | ⟨_, _, t⟩
          · exact e
          · exact (t.never o' (by rw [up3.out, n3.out, r3.out]; decide)).elim
        have nvA : Aside (∀ {x : Nat} {er : Int} {M' : Mdl}, M'.Ok → Told M 0 (Rf.M i) x er M' → er = 0) := nv
        clear nv hi4
        go_wp2_with (first
          | (go_at_call 14; refine KL.mono ?_; clear KL; rintro e w4 ⟨rfl, e4⟩; subst w4)
          | (go_at_call 23; refine KV.mono ?_; clear KV; rintro e w5 ⟨x5, er, M5, F5, rfl, t5, s5, b5⟩; have er0 := nvA.out s5.ok t5; subst er0; clear t5))
        go_ret
        exact ⟨rfl, Wf.far B3.out b5 B3.out.size f3.out⟩
      · have hv' : v < 0 ∨ (M.n : Int) ≤ v := by rw [n3.out]; omega
        have KV := var_bad s3 v hv'
        by_cases v0 : v < 0
        · have h1 : ¬ 0 ≤ v := by omega
          have h1' : decide (0 ≤ v) = false := by simpa using h1
          clear hv hv'
          go_wp2_with (first
            | (go_at_call 14; refine KL.mono ?_; clear KL; rintro e w4 ⟨rfl, e4⟩; subst w4)
            | (go_at_call 23; refine KV.mono ?_; clear KV; rintro e w5 ⟨rfl, b5⟩))
          go_ret
          exact ⟨rfl, Rf.below_far B3.out b5⟩
        · have h1 : 0 ≤ v := by omega
          have h2 : ¬ v < 4 := by omega
          have h1' : decide (0 ≤ v) = true := by simpa using h1
          have h2' : decide (v < 4) = false := by simpa using h2
          clear hv hv'
          go_wp2_with (first
            | (go_at_call 14; refine KL.mono ?_; clear KL; rintro e w4 ⟨rfl, e4⟩; subst w4)
            | (go_at_call 23; refine KV.mono ?_; clear KV; rintro e w5 ⟨rfl, b5⟩))
          go_ret
          exact ⟨rfl, Rf.below_far B3.out b5⟩
end Go.Proofs.YthadeopmnedccaaGreat
