/-
  NodesPlay, walked.
-/
import Derived.Test.YtdmfbfbebcneeaaAllT
namespace Go.Proofs.Ytdmfbfbebcneeaa
open Go Go.RowKit

/-- What stands at the beginning of a round. -/
structure PlayI (W wr : World) (S : Nat) (F : Nat → Prop) (M : Mdl) (nv k g n cap : Nat) (T : Nat → Nat) : Prop where
  st : St wr S F M
  n8 : M.n = nv
  room : M.room = k
  own : OwnR 30 wr W.heap.size (some ⟨g, 0, none⟩) n cap (fun i => .int .u32 (T i : Int))
  told : Told M n T
  old : Below W.heap.size W wr
  new : ∀ j, F j → W.heap.size ≤ j
section
variable {W wr w' : World} {S : Nat} {F F' : Nat → Prop} {M M' : Mdl} {nv k g n cap : Nat} {T : Nat → Nat}
theorem PlayI.turn (h : PlayI W wr S F M nv k g n cap T) (s : St w' S F' M) (b : Wf F F' wr w') : PlayI W w' S F' M nv k g n cap T :=
  ⟨s, h.n8, h.room, b.own h.st h.own hnd, h.told, Wf.far h.old b h.old.size h.new, b.after h.old.size h.new⟩
theorem PlayI.cell (h : PlayI W wr S F M nv k g n cap T) : ∀ i, i < n → wr.cell? ⟨g, i, none⟩ = some (.int .u32 (T i : Int)) := fun _ hi => h.own.cell hi
theorem PlayI.drewN (h : PlayI W wr S F M nv k g n cap T) (q : Nat) : PlayI W (wr.drewN q) S F M nv k g n cap T :=
  ⟨h.st.drewN q, h.n8, h.room, h.own.kept fun _ _ => rfl, h.told, ⟨h.old.os, h.old.tape, h.old.output, h.old.size, h.old.block⟩, h.new⟩
theorem PlayI.small (h : PlayI W wr S F M nv k g n cap T) : n ≤ 40000 := by have := h.told.len; have := h.st.ok.len; have := h.st.room.2; omega
/-- A node more, and told. -/
theorem PlayI.add {x : Nat} {d : Nd} {g' cap' : Nat} {w2 : World} (h : PlayI W wr S F M nv k g n cap T) (a : M.Adds x d M') (s : St w' S F' M') (b : Wf F F' wr w') (o : OwnR 30 w2 W.heap.size (some ⟨g', 0, none⟩) (n + 1) cap' (fun i => if i = n then .int .u32 (x : Int) else .int .u32 (T i : Int))) (e : Went (At (some ⟨g, 0, none⟩)) (w'.alloc (.cells #[.int .u32 (x : Int)] 30)) w2) : PlayI W w2 S F' M' nv k g' (n + 1) cap' (fun i => if i = n then x else T i) := by
  have own := (b.own h.st h.own hnd).new (.cells #[.int .u32 (x : Int)] 30)
  have s' := s.new (.cells #[.int .u32 (x : Int)] 30)
  have old := Wf.far h.old b h.old.size h.new
  refine ⟨s'.kept fun c hc => e.block c (s'.lt c hc) fun q => s'.own own hnd c q hc, by rw [a.n]; exact h.n8, by rw [a.room]; exact h.room, o.congr fun i _ => ?_, h.told.add a, ?_, b.after h.old.size h.new⟩
  · by_cases c : i = n
    · rw [if_pos c, if_pos c]
    · rw [if_neg c, if_neg c]
  · refine (old.alloc (Nat.le_trans h.old.size b.size) _).trans (e.below (by simp; exact Nat.le_trans (Nat.le_trans h.old.size b.size) (Nat.le_succ _)) fun i hi => (own.block i hi).1)
end
theorem Told.first {M : Mdl} {n : Nat} {T : Nat → Nat} (t : Told M n T) (o : M.Ok) {x : Nat} (xm : x ∈ M.hs) : ∃ m, 2 ≤ m ∧ m < n ∧ T m = x ∧ ∀ j, 2 ≤ j → j < m → M.nd (T j) ≠ M.nd x := by
  have key : ∀ k, k ≤ n → (∃ i, i < k ∧ T i = x) → ∃ m, m < k ∧ T m = x ∧ ∀ j, j < m → T j ≠ x := by
    intro k
    induction k with
    | zero => rintro _ ⟨i, hi, _⟩; omega
    | succ k ih =>
      rintro hk ⟨i, hi, e⟩
      by_cases c : ∃ i, i < k ∧ T i = x
      · obtain ⟨m, h1, h2, h3⟩ := ih (by omega) c
        exact ⟨m, by omega, h2, h3⟩
      · exact ⟨i, hi, e, fun j hj e' => c ⟨j, by omega, e'⟩⟩
  obtain ⟨m, h1, h2, h3⟩ := key n (Nat.le_refl _) (t.all x xm)
  have x2 := (o.range x xm).1
  refine ⟨m, ?_, h1, h2, fun j hj hjm e => ?_⟩
  · have : m ≠ 0 := fun e => by rw [e, t.t0] at h2; omega
    have : m ≠ 1 := fun e => by rw [e, t.t1] at h2; omega
    omega
  · exact h3 j hjm (o.one _ (t.inner j hj (by omega)) x xm e)
set_option maxRecDepth 100000 in
set_option maxHeartbeats 8000000 in
theorem play_walk (vs sl : Int) (ad : Option Addr) (len cap b off : Nat) (Le Lo Hi : Nat → Int) (Ra : Nat → Bool) (W : World) (hA : Makes W ad len b off Le Lo Hi Ra) :
    Calls Try.prog 3 #[.int .i64 vs, .int .i64 sl, .slice ad len cap] W fun e w' => e = .returned (.bool true) ∧ Below W.heap.size W w' := by
  have K0 := known_any W
  by_cases hlen : len ≤ 40
  · have hl1 : ¬ (40 : Int) < (len : Int) := by omega
    have hl2 : decide ((40 : Int) < (len : Int)) = false := decide_eq_false hl1
    by_cases hv : vs < 1 ∨ 8 < vs
    · have Kn : Aside (∀ w, Calls Try.prog 9 #[.int .i64 vs, .int .i64 sl] w _) := fun w => new_var vs sl w hv
      by_cases h1 : vs < 1
      · clear hv
        go_enter Try.func3, Try.ntmps3
        go_wp2_with (first
          | (go_at_call 8; refine K0.mono ?_; clear K0; rintro e w1 ⟨rfl, b1⟩; have Kw := Kn.out w1)
          | (go_at_call 9; refine Kw.mono ?_; clear Kw; rintro e w1 ⟨rfl, rfl⟩))
        go_ret
        exact ⟨rfl, b1⟩
      · have h2 : 8 < vs := by omega
        clear hv
        go_enter Try.func3, Try.ntmps3
        go_wp2_with (first
          | (go_at_call 8; refine K0.mono ?_; clear K0; rintro e w1 ⟨rfl, b1⟩; have Kw := Kn.out w1)
          | (go_at_call 9; refine Kw.mono ?_; clear Kw; rintro e w1 ⟨rfl, rfl⟩))
        go_ret
        exact ⟨rfl, b1⟩
    · by_cases hs : sl < 1 ∨ 32768 < sl
      · have Kn : Aside (∀ w, Calls Try.prog 9 #[.int .i64 vs, .int .i64 sl] w _) := fun w => new_full vs sl w (by omega) (by omega) hs
        have g1 : ¬ vs < 1 := by omega
        have g2 : ¬ 8 < vs := by omega
        by_cases h1 : sl < 1
        · clear hv hs
          go_enter Try.func3, Try.ntmps3
          go_wp2_with (first
            | (go_at_call 8; refine K0.mono ?_; clear K0; rintro e w1 ⟨rfl, b1⟩; have Kw := Kn.out w1)
            | (go_at_call 9; refine Kw.mono ?_; clear Kw; rintro e w1 ⟨rfl, rfl⟩))
          go_ret
          exact ⟨rfl, b1⟩
        · have h2 : 32768 < sl := by omega
          clear hv hs
          go_enter Try.func3, Try.ntmps3
          go_wp2_with (first
            | (go_at_call 8; refine K0.mono ?_; clear K0; rintro e w1 ⟨rfl, b1⟩; have Kw := Kn.out w1)
            | (go_at_call 9; refine Kw.mono ?_; clear Kw; rintro e w1 ⟨rfl, rfl⟩))
          go_ret
          exact ⟨rfl, b1⟩
      · have hAA : Aside (Makes W ad len b off Le Lo Hi Ra) := hA
        obtain ⟨nv, rfl⟩ : ∃ nv : Nat, vs = (nv : Int) := ⟨vs.toNat, by omega⟩
        obtain ⟨k, rfl⟩ : ∃ k : Nat, sl = (k : Int) := ⟨sl.toNat, by omega⟩
        have v1 : 1 ≤ nv := by omega
        have v8 : nv ≤ 8 := by omega
        have k1 : 1 ≤ k := by omega
        have k2 : k ≤ 32768 := by omega
        have dv1 : decide ((nv : Int) < 1) = false := decide_eq_false (by omega)
        have dv8 : decide ((8 : Int) < (nv : Int)) = false := decide_eq_false (by omega)
        have dk1 : decide ((k : Int) < 1) = false := decide_eq_false (by omega)
        have dk2 : decide ((32768 : Int) < (k : Int)) = false := decide_eq_false (by omega)
        have K1 : Aside (∀ w, Calls Try.prog 9 #[.int .i64 (nv : Int), .int .i64 (k : Int)] w _) := fun w => s_new nv k w v1 v8 k1 k2
        obtain ⟨M0, hM0⟩ : ∃ M0, Mdl.empty nv k = M0 := ⟨_, rfl⟩
        rw [hM0] at K1
        have hMe : Aside (M0.n = nv ∧ M0.room = k ∧ Told M0 2 (fun i => if i = 0 then 0 else 1)) := by rw [← hM0]; exact ⟨rfl, rfl, Told.start nv k⟩
        clear hM0 hA hv hs
        go_enter Try.func3, Try.ntmps3
        go_wp2_with (first
          | (go_at_call 8; refine K0.mono ?_; clear K0; rintro e w1 ⟨rfl, b1⟩; have Kn := K1.out w1)
          | (go_at_call 9; refine Kn.mono ?_; clear Kn; rintro e w2 ⟨S, F0, rfl, h2, b2, f2⟩; have Kv := s_vars h2; rw [hMe.out.1] at Kv; have Kr := s_room h2; rw [hMe.out.2.1] at Kr)
          | (go_at_call 10; refine Kv.mono ?_; clear Kv; rintro e w2 ⟨rfl, rfl⟩)
          | (go_at_call 11; refine Kr.mono ?_; clear Kr; rintro e w2 ⟨rfl, rfl⟩))
        have R0 : PlayI W (w2.alloc (.cells #[.int .u32 0, .int .u32 1] 30)) S F0 M0 nv k w2.heap.size 2 2 (fun i => if i = 0 then 0 else 1) := by
          have old := far b1 b2 b1.size
          refine ⟨h2.new _, hMe.out.1, hMe.out.2.1, ?_, hMe.out.2.2, old.alloc old.size _, fun j hj => Nat.le_trans b1.size (f2 j hj)⟩
          exact own_two _ (Nat.le_trans b1.size b2.size) rfl rfl
        generalize w2.alloc (.cells #[.int .u32 0, .int .u32 1] 30) = w3 at R0 ⊢
        have hR0 : Aside (∃ (M : Mdl) (F : Nat → Prop) (g n cap : Nat) (T : Nat → Nat), Value.slice (some ⟨w2.heap.size, 0, none⟩) 2 2 = .slice (some ⟨g, 0, none⟩) n cap ∧ PlayI W w3 S F M nv k g n cap T) := ⟨_, _, _, _, _, _, rfl, R0⟩
        clear R0 h2 b2 f2 K1 hMe b1
        go_loopg [6, 9, 10, 11, 12, 13, 14, 15, 16] len (fun gk s6 s9 si s11 s12 s13 s14 s15 s16 wr => ∃ i : Nat, i + gk = len ∧ s6 = .bool false ∧ si = .int .i64 (i : Int) ∧ ∃ (M : Mdl) (F : Nat → Prop) (g n cap : Nat) (T : Nat → Nat), s9 = .slice (some ⟨g, 0, none⟩) n cap ∧ PlayI W wr S F M nv k g n cap T)
        case atStart => exact ⟨0, by omega, rfl, rfl, hR0.out⟩
        case round =>
          obtain ⟨i, hi, rfl, rfl, M, F, g, n, cap', T, rfl, R⟩ := hrel
          have hI : Aside (i + gk = len) := hi
          clear hi hR0
          by_cases hlt : i < len
          · have hlt' : (i : Int) < (len : Int) := by omega
            obtain rfl := hAA.out.ad_ (by omega)
            have hnA : Aside (n = M.hs.length + 2) := R.told.len
            have n2 : 2 ≤ n := by have := hnA.out; omega
            have hsm := R.small
            have c1 : ∀ q, (wr.drewN q).cell? ⟨b, off + i * 4 + 1, none⟩ = some (.int .i64 (Lo i)) := fun q => hAA.out.lo' (R.drewN q).old hlt
            have c2 : ∀ q, (wr.drewN q).cell? ⟨b, off + i * 4 + 2, none⟩ = some (.int .i64 (Hi i)) := fun q => hAA.out.hi' (R.drewN q).old hlt
            have c3 : ∀ q, (wr.drewN q).cell? ⟨b, off + i * 4 + 3, none⟩ = some (.bool (Ra i)) := fun q => hAA.out.ra' (R.drewN q).old hlt
            have d1 : wr.cell? ⟨b, off + i * 4 + 1, none⟩ = some (.int .i64 (Lo i)) := hAA.out.lo' R.old hlt
            have d2 : wr.cell? ⟨b, off + i * 4 + 2, none⟩ = some (.int .i64 (Hi i)) := hAA.out.hi' R.old hlt
            have d3 : wr.cell? ⟨b, off + i * 4 + 3, none⟩ = some (.bool (Ra i)) := hAA.out.ra' R.old hlt
            have ab := pickN_lt (n := n) (T := T) (by omega) (fun j hj => Mdl.isNode_lt R.st.ok (R.told.node j hj)) (Lo i) (Ra i)
            have cb := pickN_lt (n := n) (T := T) (by omega) (fun j hj => Mdl.isNode_lt R.st.ok (R.told.node j hj)) (Hi i) (Ra i)
            have KP : ∀ q z, Calls Try.prog 12 #[.slice (some ⟨g, 0, none⟩) n cap', .int .i64 z, .bool (Ra i)] (wr.drewN q) fun e w' => e = .returned (.int .u32 (pickN T n z (Ra i) : Int)) ∧ w' = wr.drewN q := fun q z => pick_any (R.drewN q).cell (by omega) (by omega) z (Ra i)
            go_wp2_with fail
            go_quiet ((go_at_call 12; exact Calls.quiet_of_same (KP _ _)))
            have Rq := R.drewN nq
            clear R c1 c2 c3 d1 d2 d3 KP
            generalize wr.drewN nq = wq at Rq ⊢
            generalize pickN T n (Lo i) (Ra i) = a at ab ⊢
            generalize pickN T n (Hi i) (Ra i) = c at cb ⊢
            have leA : Aside (∀ w', Below W.heap.size W w' → w'.cell? ⟨b, off + i * 4, none⟩ = some (.int .i64 (Le i))) := fun w' q => hAA.out.le' q hlt
            obtain ⟨l, hl⟩ : ∃ l, Le i = l := ⟨_, rfl⟩
            rw [hl] at leA
            have e0 := leA.out wq Rq.old
            clear hl
            have ok := Rq.st.ok
            have n8 := Rq.n8
            have hrm := Rq.room
            have n8A : Aside (M.n = nv) := n8
            have hrA : Aside (M.room = k) := hrm
            clear n8 hrm
            have Kz : Aside (∀ {w' : World} {F' : Nat → Prop} {M' : Mdl} {g' n' cap' : Nat} {T' : Nat → Nat}, PlayI W w' S F' M' nv k g' n' cap' T' → Calls Try.prog 18 #[.pointer (some ⟨S, 0, none⟩)] w' fun e w'' => e = .returned (.int .i64 ((n' : Int) - 2)) ∧ w'' = w') := fun {w' F' M' g' n' cap' T'} R' => by
              have := s_len R'.st
              have e : (M'.hs.length : Int) = (n' : Int) - 2 := by have := R'.told.len; omega
              rwa [e] at this
            by_cases hvar : l < 0 ∨ (M.n : Int) ≤ l
            · have Km := s_mk_var Rq.st l (.int .u32 (a : Int)) (.int .u32 (c : Int)) hvar
              have Kj := judge_var Rq.st l (.slice (some ⟨g, 0, none⟩) n cap') (.int .u32 (a : Int)) (.int .u32 (c : Int)) hvar
              clear hvar
              go_wp2_with (first
                | (go_at_call 13; refine Km.mono ?_; clear Km; rintro e wq ⟨rfl, rfl⟩)
                | (go_at_call 14; refine Kj.mono ?_; clear Kj; rintro e wq ⟨rfl, rfl⟩))
              go_roundg (gk - 1)
              case measure => have := hI.out; omega
              case rel =>
                have hi := hI.out
                exact ⟨i + 1, by omega, rfl, by go_num, _, _, _, _, _, _, rfl, Rq⟩
            · obtain ⟨l, rfl⟩ : ∃ l' : Nat, l = (l' : Int) := ⟨l.toNat, by omega⟩
              have hln : l < M.n := by omega
              clear hvar
              by_cases hnn : ¬ M.isNode a ∨ ¬ M.isNode c
              · have Km := s_mk_node Rq.st l a c hln (by omega) (by omega) hnn
                have Kj := judge_node (cap := cap') Rq.st Rq.cell (by omega) Rq.told l a c hln hnn
                clear hnn
                go_wp2_with (first
                  | (go_at_call 13; refine Km.mono ?_; clear Km; rintro e wq ⟨rfl, rfl⟩)
                  | (go_at_call 14; refine Kj.mono ?_; clear Kj; rintro e wq ⟨rfl, rfl⟩))
                go_roundg (gk - 1)
                case measure => have := hI.out; omega
                case rel =>
                  have hi := hI.out
                  exact ⟨i + 1, by omega, rfl, by go_num, _, _, _, _, _, _, rfl, Rq⟩
              · have na : M.isNode a := Decidable.byContradiction fun e => hnn (.inl e)
                have nc : M.isNode c := Decidable.byContradiction fun e => hnn (.inr e)
                clear hnn
                by_cases hlv : M.lev a ≤ l ∨ M.lev c ≤ l
                · have Km := s_mk_level Rq.st l a c hln na nc hlv
                  have Kj := judge_level (cap := cap') Rq.st (Mdl.Grew.refl M) Rq.cell (by omega) Rq.told l a c hln na nc hlv
                  clear hlv na nc
                  go_wp2_with (first
                    | (go_at_call 13; refine Km.mono ?_; clear Km; rintro e wq ⟨rfl, rfl⟩)
                    | (go_at_call 14; refine Kj.mono ?_; clear Kj; rintro e wq ⟨rfl, rfl⟩))
                  go_roundg (gk - 1)
                  case measure => have := hI.out; omega
                  case rel =>
                    have hi := hI.out
                    exact ⟨i + 1, by omega, rfl, by go_num, _, _, _, _, _, _, rfl, Rq⟩
                · have la : l < M.lev a := by omega
                  have lc : l < M.lev c := by omega
                  clear hlv
                  by_cases hac : a = c
                  · subst hac
                    have Km := s_mk_same Rq.st l a la na
                    have Kj := judge_same (cap := cap') Rq.st (Mdl.Grew.refl M) Rq.cell (by omega) Rq.told l a la na
                    have Z1 := Kz.out Rq
                    have cellA : Aside (∀ i, i < n → wq.cell? ⟨g, i, none⟩ = some (.int .u32 (T i : Int))) := Rq.cell
                    clear la lc na nc
                    go_wp2_with (first
                      | (go_at_call 13; refine Km.mono ?_; clear Km; rintro e wq ⟨rfl, rfl⟩)
                      | (go_at_call 14; refine Kj.mono ?_; clear Kj; rintro e wq ⟨p, rfl, p1, p2, rfl⟩; have cp := cellA.out p p1; rw [p2] at cp; have p2A : Aside (T p = a) := p2; clear p2; have p3 : (0 : Int) < (p : Int) + 1 := (by omega); have p4 : ¬ (p : Int) + 1 = 0 := (by omega); have p5 : (((p : Int) + 1) == 0) = false := (by simpa using p4))
                      | (go_at_call 18; refine Z1.mono ?_; clear Z1; rintro e wq ⟨rfl, rfl⟩))
                    go_roundg (gk - 1)
                    case measure => have := hI.out; omega
                    case rel =>
                      have hi := hI.out
                      exact ⟨i + 1, by omega, rfl, by go_num, _, _, _, _, _, _, rfl, Rq⟩
                  · have fits : Aside (M.Fits (l, a, c)) := ⟨hln, hac, ⟨na, la⟩, ⟨nc, lc⟩⟩
                    have laA : Aside (l < M.lev a ∧ l < M.lev c ∧ M.isNode a ∧ M.isNode c ∧ a ≠ c) := ⟨la, lc, na, nc, hac⟩
                    have hlnA : Aside (l < M.n) := hln
                    clear la lc na nc hac hln
                    by_cases hth : ∃ x ∈ M.hs, M.nd x = (l, a, c)
                    · obtain ⟨x, xm, xe⟩ := hth
                      have xr := ok.range x xm
                      have Km := s_mk_there Rq.st l a c fits.out x xm xe
                      obtain ⟨m, m2, mn, mx, mf⟩ := Rq.told.first ok xm
                      have mA : Aside (T m = x) := mx
                      have JJ : Aside (∀ {w' : World} {F' : Nat → Prop}, PlayI W w' S F' M nv k g n cap' T → Calls Try.prog 14 #[.pointer (some ⟨S, 0, none⟩), .slice (some ⟨g, 0, none⟩) n cap', .int .i64 (l : Int), .int .u32 (a : Int), .int .u32 (c : Int)] w' fun e w'' => e = .returned (.tuple #[.int .i64 0, .int .i64 ((m : Int) + 1)]) ∧ w'' = w') := fun {w' F'} R' => by
                        obtain ⟨q1, q2, q3, q4, q5⟩ := laA.out
                        exact judge_search (cap := cap') R'.st (Mdl.Grew.refl M) R'.cell (by omega) R'.told l a c hlnA.out q3 q4 q1 q2 q5 ok m m2 (by omega) (fun j h1 h2 => by rw [← xe]; exact mf j h1 h2) (fun _ => by rw [mx, xe]) 0 ((m : Int) + 1) (fun _ => ⟨rfl, rfl⟩) (fun e => absurd mn e) (fun e => absurd mn e)
                      have p3 : (0 : Int) < (m : Int) + 1 := by omega
                      have p4 : ¬ (m : Int) + 1 = 0 := by omega
                      have p5 : (((m : Int) + 1) == 0) = false := by simpa using p4
                      clear xe mf mx
                      go_wp2_with (first
                        | (go_at_call 13; refine Km.mono ?_; clear Km; rintro e w5 ⟨rfl, F5, s5, b5⟩; have R5 := Rq.turn s5 b5; have Kj := JJ.out R5; have Z1 := Kz.out R5; have e5 := leA.out w5 R5.old; have cm := R5.cell m mn; rw [mA.out] at cm)
                        | (go_at_call 14; refine Kj.mono ?_; clear Kj; rintro e w5 ⟨rfl, rfl⟩)
                        | (go_at_call 18; refine Z1.mono ?_; clear Z1; rintro e w5 ⟨rfl, rfl⟩))
                      go_roundg (gk - 1)
                      case measure => have := hI.out; omega
                      case rel =>
                        have hi := hI.out
                        exact ⟨i + 1, by omega, rfl, by go_num, _, _, _, _, _, _, rfl, R5⟩
                    · have no : Aside (∀ x ∈ M.hs, M.nd x ≠ (l, a, c)) := fun x xm xe => hth ⟨x, xm, xe⟩
                      clear hth
                      by_cases hfull : M.hs.length = M.room
                      · have Km := s_mk_full Rq.st l a c fits.out no.out hfull
                        have JJ : Aside (∀ {w' : World} {F' : Nat → Prop}, PlayI W w' S F' M nv k g n cap' T → Calls Try.prog 14 #[.pointer (some ⟨S, 0, none⟩), .slice (some ⟨g, 0, none⟩) n cap', .int .i64 (l : Int), .int .u32 (a : Int), .int .u32 (c : Int)] w' fun e w'' => e = .returned (.tuple #[.int .i64 60, .int .i64 0]) ∧ w'' = w') := fun {w' F'} R' => by
                          obtain ⟨q1, q2, q3, q4, q5⟩ := laA.out
                          exact judge_search (cap := cap') R'.st (Mdl.Grew.refl M) R'.cell (by omega) R'.told l a c hlnA.out q3 q4 q1 q2 q5 ok n (by omega) (Nat.le_refl _) (fun j h1 h2 => no.out _ (R'.told.inner j h1 h2)) (fun e => absurd e (by omega)) 60 0 (fun e => absurd e (by omega)) (fun _ _ => ⟨rfl, rfl⟩) (fun _ e => absurd (Nat.le_of_eq hfull.symm) e)
                        have hnk2 : (n : Int) - 2 = (k : Int) := by have := hnA.out; have := hrA.out; omega
                        clear hfull
                        go_wp2_with (first
                          | (go_at_call 13; refine Km.mono ?_; clear Km; rintro e w5 ⟨rfl, F5, s5, b5⟩; have R5 := Rq.turn s5 b5; have Kj := JJ.out R5; have e5 := leA.out w5 R5.old)
                          | (go_at_call 14; refine Kj.mono ?_; clear Kj; rintro e w5 ⟨rfl, rfl⟩))
                        go_roundg (gk - 1)
                        case measure => have := hI.out; omega
                        case rel =>
                          have hi := hI.out
                          exact ⟨i + 1, by omega, rfl, by go_num, _, _, _, _, _, _, rfl, R5⟩
                      · have hlt2 : M.hs.length < M.room := by have := ok.len; omega
                        have Km := s_mk_new Rq.st l a c fits.out no.out hlt2
                        have JJ : Aside (∀ {w' : World} {F' : Nat → Prop} {M' : Mdl} {x : Nat}, M.Adds x (l, a, c) M' → St w' S F' M' → (∀ i, i < n → w'.cell? ⟨g, i, none⟩ = some (.int .u32 (T i : Int))) → Calls Try.prog 14 #[.pointer (some ⟨S, 0, none⟩), .slice (some ⟨g, 0, none⟩) n cap', .int .i64 (l : Int), .int .u32 (a : Int), .int .u32 (c : Int)] w' fun e w'' => e = .returned (.tuple #[.int .i64 0, .int .i64 0]) ∧ w'' = w') := fun {w' F' M' x} ad' s' ce => by
                          obtain ⟨q1, q2, q3, q4, q5⟩ := laA.out
                          exact judge_search (cap := cap') s' ad'.grew ce (by omega) Rq.told l a c (by rw [ad'.n]; exact hlnA.out) q3 q4 q1 q2 q5 ok n (by omega) (Nat.le_refl _) (fun j h1 h2 => no.out _ (Rq.told.inner j h1 h2)) (fun e => absurd e (by omega)) 0 0 (fun e => absurd e (by omega)) (fun _ e => absurd e (by omega)) (fun _ _ => ⟨rfl, rfl⟩)
                        clear hfull hlt2
                        go_upto_region 25 with (first
                          | (go_at_call 13; refine Km.mono ?_; clear Km; rintro e w5 ⟨x, rfl, F5, M5, a5, s5, b5, x5⟩; have adA : Aside (M.Adds x (l, a, c) M5) := a5; clear x5 a5; have own5 := b5.own Rq.st Rq.own hnd; have cell5 : Aside (∀ i, i < n → w5.cell? ⟨g, i, none⟩ = some (.int .u32 (T i : Int))) := (fun i hi => own5.cell hi); have Kj := JJ.out adA.out s5 cell5.out; have old5 := Wf.far Rq.old b5 Rq.old.size Rq.new; have e5 := leA.out w5 old5; have xr := s5.ok.range x adA.out.at.1)
                          | (go_at_call 14; refine Kj.mono ?_; clear Kj; rintro e w5 ⟨rfl, rfl⟩))
                        have KL : ∀ q, Calls Try.prog 15 #[.pointer (some ⟨S, 0, none⟩), .int .u32 (x : Int)] (w5.drewN q) fun e w' => e = .returned (.int .i64 (l : Int)) ∧ w' = w5.drewN q := fun q => by
                          have := s_level (s5.drewN q) x (by omega)
                          rwa [Mdl.levI_in s5.ok adA.out.at.1, adA.out.at.2] at this
                        have KA : ∀ q, Calls Try.prog 16 #[.pointer (some ⟨S, 0, none⟩), .int .u32 (x : Int)] (w5.drewN q) fun e w' => e = .returned (.int .u32 (a : Int)) ∧ w' = w5.drewN q := fun q => by
                          have := s_low (s5.drewN q) x (by omega)
                          rwa [Mdl.lowN_in s5.ok adA.out.at.1, adA.out.at.2] at this
                        have KB : ∀ q, Calls Try.prog 17 #[.pointer (some ⟨S, 0, none⟩), .int .u32 (x : Int)] (w5.drewN q) fun e w' => e = .returned (.int .u32 (c : Int)) ∧ w' = w5.drewN q := fun q => by
                          have := s_high (s5.drewN q) x (by omega)
                          rwa [Mdl.highN_in s5.ok adA.out.at.1, adA.out.at.2] at this
                        have x1 : ¬ (x : Int) ≤ 1 := by omega
                        have x2 : ¬ (268435456 : Int) ≤ (x : Int) := by omega
                        have x1' : decide ((x : Int) ≤ 1) = false := decide_eq_false x1
                        have x2' : decide ((268435456 : Int) ≤ (x : Int)) = false := decide_eq_false x2
                        have e5q : ∀ q, (w5.drewN q).cell? ⟨b, off + i * 4, none⟩ = some (.int .i64 (l : Int)) := fun q => e5
                        go_quiet (first | (go_at_call 15; exact Calls.quiet_of_same (KL _)) | (go_at_call 16; exact Calls.quiet_of_same (KA _)) | (go_at_call 17; exact Calls.quiet_of_same (KB _)))
                        have s6 := s5.drewN nq
                        have b6 := b5.drewN nq
                        have own6 := own5.kept (w' := w5.drewN nq) fun _ _ => rfl
                        clear KL KA KB e5 e5q s5 own5 cell5 b5 old5
                        generalize w5.drewN nq = w6 at s6 b6 own6 ⊢
                        go_wp2_with (first
                          | (at_builtin; refine append_h (own6.new _) w6.heap.size (x : Int) (heap_alloc_new _ _) (by omega) (Nat.le_trans (Nat.le_trans Rq.old.size b6.size) (by simp)) rfl _ _ rfl rfl rfl ?_; intro g7 cap7 w7 o7 b7 p7; have R7 := Rq.add adA.out s6 b6 o7 b7; have Z1 := Kz.out R7)
                          | (go_at_call 18; refine Z1.mono ?_; clear Z1; rintro e w7 ⟨rfl, rfl⟩))
                        go_roundg (gk - 1)
                        case measure => have := hI.out; omega
                        case rel =>
                          have hi := hI.out
                          exact ⟨i + 1, by omega, rfl, by go_num, _, _, _, _, _, _, rfl, R7⟩
          · obtain rfl : i = len := by have := hI.out; omega
            have Ko := once_any R.st
            go_wp2_with (first
              | (go_at_call 19; refine Ko.mono ?_; clear Ko; rintro e w8 ⟨rfl, b8⟩; have Ka := allt_any (cap := cap') (R.st.below b8) (fun j hj => by rw [b8.cell (R.own.block g ⟨_, rfl, rfl⟩).2]; exact R.cell j hj) (Nat.lt_of_lt_of_le (R.own.block g ⟨_, rfl, rfl⟩).2 b8.size) (by have := R.small; omega) R.told)
              | (go_at_call 20; refine Ka.mono ?_; clear Ka; rintro e w9 ⟨rfl, b9⟩))
            go_ret
            exact ⟨rfl, far (far R.old b8 R.old.size) b9 (Nat.le_trans R.old.size b8.size)⟩
  · have hl1 : (40 : Int) < (len : Int) := by omega
    go_enter Try.func3, Try.ntmps3
    go_wp2_with (first
      | (go_at_call 8; refine K0.mono ?_; clear K0; rintro e w1 ⟨rfl, b1⟩))
    go_ret
    exact ⟨rfl, b1⟩
end Go.Proofs.Ytdmfbfbebcneeaa
