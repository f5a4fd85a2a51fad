/-
  NodesRoom, walked.
-/
import Derived.Test.YtdmfbfbebcneeaaPlace
import Derived.Test.YtdmfbfbebcneeaaArg
import Derived.Test.YtdmfbfbebcneeaaLevelsW
import Derived.Deep.CutRange
namespace Go.Proofs.Ytdmfbfbebcneeaa
open Go Go.RowKit

/-- What stands at the beginning of a round. -/
structure RoomI (W wr : World) (S : Nat) (F : Nat → Prop) (M : Mdl) (k g n cap : Nat) (T : Nat → Nat) : Prop where
  st : St wr S F M
  n8 : M.n = 8
  room : M.room = k
  own : OwnR 30 wr W.heap.size (some ⟨g, 0, none⟩) n cap (fun i => .int .u32 (T i : Int))
  told : Told M n T
  old : Below W.heap.size W wr
  new : ∀ j, F j → W.heap.size ≤ j
section
variable {W wr w' : World} {S : Nat} {F F' : Nat → Prop} {M M' : Mdl} {k g n cap : Nat} {T : Nat → Nat}
theorem hnd : (30 : TypeId) ≠ 88 ∧ (30 : TypeId) ≠ 107 ∧ (30 : TypeId) ≠ 155 ∧ (30 : TypeId) ≠ 44 := by decide
theorem RoomI.turn (h : RoomI W wr S F M k g n cap T) (s : St w' S F' M) (b : Wf F F' wr w') : RoomI W w' S F' M k g n cap T :=
  ⟨s, h.n8, h.room, b.own h.st h.own hnd, h.told, Wf.far h.old b h.old.size h.new, b.after h.old.size h.new⟩
theorem RoomI.cell (h : RoomI W wr S F M k g n cap T) : ∀ i, i < n → wr.cell? ⟨g, i, none⟩ = some (.int .u32 (T i : Int)) := fun _ hi => h.own.cell hi
theorem RoomI.drewN (h : RoomI W wr S F M k g n cap T) (q : Nat) : RoomI W (wr.drewN q) S F M k g n cap T :=
  ⟨h.st.drewN q, h.n8, h.room, h.own.kept fun _ _ => rfl, h.told, ⟨h.old.os, h.old.tape, h.old.output, h.old.size, h.old.block⟩, h.new⟩
theorem RoomI.small (h : RoomI W wr S F M k g n cap T) : n ≤ 40000 := by have := h.told.len; have := h.st.ok.len; have := h.st.room.2; omega
/-- A node more, and told. -/
theorem RoomI.add {x : Nat} {d : Nd} {g' cap' : Nat} {w2 : World} (h : RoomI W wr S F M k g n cap T) (a : M.Adds x d M') (s : St w' S F' M') (b : Wf F F' wr w') (o : OwnR 30 w2 W.heap.size (some ⟨g', 0, none⟩) (n + 1) cap' (fun i => if i = n then .int .u32 (x : Int) else .int .u32 (T i : Int))) (e : Went (At (some ⟨g, 0, none⟩)) (w'.alloc (.cells #[.int .u32 (x : Int)] 30)) w2) : RoomI W w2 S F' M' k g' (n + 1) cap' (fun i => if i = n then x else T i) := by
  have own := (b.own h.st h.own hnd).new (.cells #[.int .u32 (x : Int)] 30)
  have s' := s.new (.cells #[.int .u32 (x : Int)] 30)
  have old := Wf.far h.old b h.old.size h.new
  refine ⟨s'.kept fun c hc => e.block c (s'.lt c hc) fun q => s'.own own hnd c q hc, by rw [a.n]; exact h.n8, by rw [a.room]; exact h.room, o.congr fun i _ => ?_, h.told.add a, ?_, b.after h.old.size h.new⟩
  · by_cases c : i = n
    · rw [if_pos c, if_pos c]
    · rw [if_neg c, if_neg c]
  · refine (old.alloc (Nat.le_trans h.old.size b.size) _).trans (e.below (by simp; exact Nat.le_trans (Nat.le_trans h.old.size b.size) (Nat.le_succ _)) fun i hi => (own.block i hi).1)
end
theorem own_two {e : TypeId} {B : Nat} {x y : Value} {V : Nat → Value} (w : World) (hB : B ≤ w.heap.size) (h0 : V 0 = x) (h1 : V 1 = y) : OwnR e (w.alloc (.cells #[x, y] e)) B (some ⟨w.heap.size, 0, none⟩) 2 2 V :=
  ⟨by simp [rowL], .inr ⟨w.heap.size, 2, #[x, y], rfl, hB, Go.Deep.blk_alloc_new _ _, by omega, by decide, rfl, by simp [rowL, List.range_succ, h0, h1]⟩⟩
theorem new_none {M M' : Mdl} {x : Nat} {d : Nd} (a : M.Adds x d M') (o : M'.Ok) : ¬ M.isNode x := by
  rintro (e | e)
  · have := (o.range x a.at.1).1; omega
  · exact a.new e
set_option maxRecDepth 100000 in
set_option maxHeartbeats 4000000 in
theorem room_walk (z : Int) (ad : Option Addr) (len cap b off : Nat) (Z : Nat → Int) (W : World) (z0 : 0 ≤ z) (hA : Words W ad len b off Z) :
    Calls Try.prog 5 #[.int .u8 z, .slice ad len cap] W fun e w' => e = .returned (.bool true) ∧ Below W.heap.size W w' := by
  have K0 := known_any W
  by_cases hlen : len ≤ 120
  · have hl1 : ¬ (120 : Int) < (len : Int) := by omega
    have hl2 : decide ((120 : Int) < (len : Int)) = false := decide_eq_false hl1
    have hAA : Aside (Words W ad len b off Z) := hA
    obtain ⟨k, hk⟩ : ∃ k : Nat, z % 40 + 1 = (k : Int) := ⟨(z % 40 + 1).toNat, by omega⟩
    have k1 : 1 ≤ k := by omega
    have k40 : k ≤ 40 := by omega
    have hz : Int.tmod z 40 = z % 40 := Int.tmod_eq_emod_of_nonneg z0
    have K1 : Aside (∀ w, Calls Try.prog 9 #[.int .i64 8, .int .i64 (k : Int)] w _) := fun w => s_new 8 k w (by omega) (by omega) k1 (by omega)
    obtain ⟨M0, hM0⟩ : ∃ M0, Mdl.empty 8 k = M0 := ⟨_, rfl⟩
    rw [hM0] at K1
    have hMe : Aside (M0.n = 8 ∧ M0.room = k ∧ Told M0 2 (fun i => if i = 0 then 0 else 1)) := by rw [← hM0]; exact ⟨rfl, rfl, Told.start 8 k⟩
    clear hM0 hA
    go_enter Try.func5, Try.ntmps5
    go_wp2_with (first
      | (go_at_call 8; refine K0.mono ?_; clear K0; rintro e w1 ⟨rfl, b1⟩; have Kn := K1.out w1)
      | (go_at_call 9; refine Kn.mono ?_; clear Kn; rintro e w2 ⟨S, F0, rfl, h2, b2, f2⟩))
    have R0 : RoomI W (w2.alloc (.cells #[.int .u32 0, .int .u32 1] 30)) S F0 M0 k w2.heap.size 2 2 (fun i => if i = 0 then 0 else 1) := by
      have old := far b1 b2 b1.size
      refine ⟨h2.new _, hMe.out.1, hMe.out.2.1, ?_, hMe.out.2.2, old.alloc old.size _, fun j hj => Nat.le_trans b1.size (f2 j hj)⟩
      exact own_two _ (Nat.le_trans b1.size b2.size) rfl rfl
    generalize w2.alloc (.cells #[.int .u32 0, .int .u32 1] 30) = w3 at R0 ⊢
    have hR0 : Aside (∃ (M : Mdl) (F : Nat → Prop) (g n cap : Nat) (T : Nat → Nat), Value.slice (some ⟨w2.heap.size, 0, none⟩) 2 2 = .slice (some ⟨g, 0, none⟩) n cap ∧ RoomI W w3 S F M k g n cap T) := ⟨_, _, _, _, _, _, rfl, R0⟩
    clear R0 h2 b2 f2 K1 hMe b1
    go_loopg [4, 8, 9, 10, 11, 12, 13, 14] len (fun gk s4 s8 si s10 s11 s12 s13 s14 wr => ∃ i : Nat, i + gk = len ∧ s4 = .bool false ∧ si = .int .i64 (i : Int) ∧ ∃ (M : Mdl) (F : Nat → Prop) (g n cap : Nat) (T : Nat → Nat), s8 = .slice (some ⟨g, 0, none⟩) n cap ∧ RoomI W wr S F M k g n cap T)
    case atStart => exact ⟨0, by omega, rfl, rfl, hR0.out⟩
    case round =>
      obtain ⟨i, hi, rfl, rfl, M, F, g, n, cap', T, rfl, R⟩ := hrel
      have hI : Aside (i + gk = len) := hi
      clear hi hR0
      by_cases hlt : i < len
      · have hlt' : (i : Int) < (len : Int) := by omega
        obtain rfl := hAA.out.ad_ (by omega)
        have hnA : Aside (n = M.hs.length + 2) := R.told.len
        have n2 : 2 ≤ n := by have := hnA.out; omega
        have hsm := R.small
        obtain ⟨v0, v1⟩ := hAA.out.val i hlt
        have ci : ∀ q, (wr.drewN q).cell? ⟨b, off + i, none⟩ = some (.int .u16 (Z i)) := fun q => hAA.out.kept (R.drewN q).old hlt
        have ci0 : wr.cell? ⟨b, off + i, none⟩ = some (.int .u16 (Z i)) := hAA.out.kept R.old hlt
        generalize Z i = y at ci ci0 v0 v1
        obtain ⟨p, hp⟩ : ∃ p : Nat, y % (n : Int) = (p : Int) ∧ p < n := ⟨(y % (n : Int)).toNat, by have := Int.emod_nonneg y (show (n : Int) ≠ 0 by omega); omega, by have := Int.emod_lt_of_pos y (show (0 : Int) < n by omega); have := Int.emod_nonneg y (show (n : Int) ≠ 0 by omega); omega⟩
        obtain ⟨q, hq⟩ : ∃ q : Nat, (y / 16) % (n : Int) = (q : Int) ∧ q < n := ⟨((y / 16) % (n : Int)).toNat, by have := Int.emod_nonneg (y / 16) (show (n : Int) ≠ 0 by omega); omega, by have := Int.emod_lt_of_pos (y / 16) (show (0 : Int) < n by omega); have := Int.emod_nonneg (y / 16) (show (n : Int) ≠ 0 by omega); omega⟩
        have m1 : Int.tmod y (n : Int) = (p : Int) := by rw [Int.tmod_eq_emod_of_nonneg v0]; exact hp.1
        have m2 : Int.tmod (y / 16) (n : Int) = (q : Int) := by rw [Int.tmod_eq_emod_of_nonneg (by omega)]; exact hq.1
        have m3 : Int.tdiv y 16 = y / 16 := Int.tdiv_eq_ediv_of_nonneg v0
        have n0 : ((n : Int) == 0) = false := by simp; omega
        have n0' : ¬ (n : Int) = 0 := by omega
        have cp := R.cell p hp.2
        have cq := R.cell q hq.2
        have hna := R.told.node p hp.2
        have hnb := R.told.node q hq.2
        have hp1 := hp.1
        have hq1 := hq.1
        have hp2 := hp.2
        have hq2 := hq.2
        clear hp hq
        go_wp2_with fail
        go_quiet (fail)
        have Rq := R.drewN nq
        clear R ci ci0 cp cq
        generalize wr.drewN nq = wq at Rq ⊢
        generalize T p = a at hna ⊢
        generalize T q = c at hnb ⊢
        have ok := Rq.st.ok
        have ha := Mdl.isNode_lt ok hna
        have hc := Mdl.isNode_lt ok hnb
        have La := s_level Rq.st a (by omega)
        rw [Mdl.levI_node hna] at La
        have Lc := s_level Rq.st c (by omega)
        rw [Mdl.levI_node hnb] at Lc
        have hla := Mdl.lev_le ok hna
        have hlc := Mdl.lev_le ok hnb
        have n8 := Rq.n8
        have hnaA : Aside (M.isNode a) := hna
        have hnbA : Aside (M.isNode c) := hnb
        obtain ⟨la, hla'⟩ : ∃ la, M.lev a = la := ⟨_, rfl⟩
        obtain ⟨lc, hlc'⟩ : ∃ lc, M.lev c = lc := ⟨_, rfl⟩
        have laA : Aside (M.lev a = la) := hla'
        have lcA : Aside (M.lev c = lc) := hlc'
        rw [hla'] at La hla
        rw [hlc'] at Lc hlc
        rw [n8] at hla hlc
        obtain ⟨mn, hm1, hm2, hm3⟩ : ∃ mn : Nat, (if lc < la then lc else la) = mn ∧ mn ≤ la ∧ mn ≤ lc := ⟨_, rfl, by split <;> omega, by split <;> omega⟩
        have hmnI : (if (lc : Int) < (la : Int) then (lc : Int) else (la : Int)) = (mn : Int) := by rw [← hm1]; split <;> split <;> omega
        have hmnN : (if lc < la then (lc : Int) else (la : Int)) = (mn : Int) := by rw [← hm1]; split <;> rfl
        have mA : Aside (mn ≤ la ∧ mn ≤ lc) := ⟨hm2, hm3⟩
        clear hna hnb hla' hlc' n8 hm1 hm2 hm3
        have Kz : Aside (∀ {w' : World} {F' : Nat → Prop} {M' : Mdl} {g' n' cap' : Nat} {T' : Nat → Nat}, RoomI W w' S F' M' k g' n' cap' T' → Calls Try.prog 18 #[.pointer (some ⟨S, 0, none⟩)] w' fun e w'' => e = .returned (.int .i64 ((n' : Int) - 2)) ∧ w'' = w') := fun {w' F' M' g' n' cap' T'} R' => by
          have := s_len R'.st
          have e : (M'.hs.length : Int) = (n' : Int) - 2 := by have := R'.told.len; omega
          rwa [e] at this
        go_upto_region 15 with (first
          | (go_at_call 15; refine La.mono ?_; clear La; rintro e wq ⟨rfl, rfl⟩)
          | (go_at_call 15; refine Lc.mono ?_; clear Lc; rintro e wq ⟨rfl, rfl⟩))
        have hnk : (n : Int) - 2 ≤ (k : Int) := by have := Rq.told.len; have := ok.len; have := Rq.room; omega
        by_cases hm0 : mn = 0
        · subst hm0
          have Km := s_mk_var Rq.st (-1) (.int .u32 (a : Int)) (.int .u32 (c : Int)) (.inl (by omega))
          have Z1 := Kz.out Rq
          have Z2 := Z1
          have t1 : ¬ (k : Int) < (n : Int) - 2 := by omega
          go_wp2_with (first
            | (go_at_call 13; refine Km.mono ?_; clear Km; rintro e wq ⟨rfl, rfl⟩)
            | (go_at_call 18; refine Z1.mono ?_; clear Z1; rintro e wq ⟨rfl, rfl⟩)
            | (go_at_call 18; refine Z2.mono ?_; clear Z2; rintro e wq ⟨rfl, rfl⟩))
          go_roundg (gk - 1)
          case measure => have := hI.out; omega
          case rel =>
            have hi := hI.out
            exact ⟨i + 1, by omega, rfl, by go_num, _, _, _, _, _, _, rfl, Rq⟩
        · obtain ⟨l, rfl⟩ : ∃ l, mn = l + 1 := ⟨mn - 1, by omega⟩
          have l0 : ¬ (l : Int) < 0 := by omega
          have fitA : Aside (l < M.lev a ∧ l < M.lev c) := by
            have := mA.out
            rw [laA.out, lcA.out]
            exact ⟨by omega, by omega⟩
          have t1 : ¬ (k : Int) < (n : Int) - 2 := by omega
          by_cases hac : a = c
          · subst hac
            have Km := s_mk_same Rq.st l a fitA.out.1 hnaA.out
            have Z1 := Kz.out Rq
            have Z2 := Z1
            clear hm0
            go_wp2_with (first
              | (go_at_call 13; refine Km.mono ?_; clear Km; rintro e wq ⟨rfl, rfl⟩)
              | (go_at_call 18; refine Z1.mono ?_; clear Z1; rintro e wq ⟨rfl, rfl⟩)
              | (go_at_call 18; refine Z2.mono ?_; clear Z2; rintro e wq ⟨rfl, rfl⟩))
            go_roundg (gk - 1)
            case measure => have := hI.out; omega
            case rel =>
              have hi := hI.out
              exact ⟨i + 1, by omega, rfl, by go_num, _, _, _, _, _, _, rfl, Rq⟩
          · have hac1 : ¬ (a : Int) = (c : Int) := by omega
            have hac2 : ((a : Int) == (c : Int)) = false := by simpa using hac1
            have fits : Aside (M.Fits (l, a, c)) := ⟨by show l < M.n; rw [Rq.n8]; have := mA.out; omega, hac, ⟨hnaA.out, fitA.out.1⟩, ⟨hnbA.out, fitA.out.2⟩⟩
            clear hm0 hac
            by_cases hth : ∃ x ∈ M.hs, M.nd x = (l, a, c)
            · obtain ⟨x, xm, xe⟩ := hth
              have xr := ok.range x xm
              have Km := s_mk_there Rq.st l a c fits.out x xm xe
              clear xe
              go_wp2_with (first
                | (go_at_call 13; refine Km.mono ?_; clear Km; rintro e w5 ⟨rfl, F5, s5, b5⟩; have R5 := Rq.turn s5 b5; have Kp := place_yes (cap := cap') R5.cell (by omega) x (R5.told.some (.inr xm)); have Z1 := Kz.out R5; have Z2 := Z1)
                | (go_at_call 26; refine Kp.mono ?_; clear Kp; rintro e w5 ⟨pm, rfl, pm1, pm2, rfl⟩; have pm3 : ¬ (pm : Int) < 0 := by omega)
                | (go_at_call 18; refine Z1.mono ?_; clear Z1; rintro e w5 ⟨rfl, rfl⟩)
                | (go_at_call 18; refine Z2.mono ?_; clear Z2; rintro e w5 ⟨rfl, rfl⟩))
              go_roundg (gk - 1)
              case measure => have := hI.out; omega
              case rel =>
                have hi := hI.out
                exact ⟨i + 1, by omega, rfl, by go_num, _, _, _, _, _, _, rfl, R5⟩
            · have no : Aside (∀ x ∈ M.hs, M.nd x ≠ (l, a, c)) := fun x xm xe => hth ⟨x, xm, xe⟩
              clear hth
              by_cases hfull : M.hs.length = M.room
              · have Km := s_mk_full Rq.st l a c fits.out no.out hfull
                have hnk2 : (n : Int) - 2 = (k : Int) := by have := hnA.out; have := Rq.room; omega
                clear hfull
                go_wp2_with (first
                  | (go_at_call 13; refine Km.mono ?_; clear Km; rintro e w5 ⟨rfl, F5, s5, b5⟩; have R5 := Rq.turn s5 b5; have Z0 := Kz.out R5; have Z1 := Z0; have Z2 := Z0)
                  | (go_at_call 18; refine Z0.mono ?_; clear Z0; rintro e w5 ⟨rfl, rfl⟩)
                  | (go_at_call 18; refine Z1.mono ?_; clear Z1; rintro e w5 ⟨rfl, rfl⟩)
                  | (go_at_call 18; refine Z2.mono ?_; clear Z2; rintro e w5 ⟨rfl, rfl⟩))
                go_roundg (gk - 1)
                case measure => have := hI.out; omega
                case rel =>
                  have hi := hI.out
                  exact ⟨i + 1, by omega, rfl, by go_num, _, _, _, _, _, _, rfl, R5⟩
              · have Km := s_mk_new Rq.st l a c fits.out no.out (by have := ok.len; omega)
                have hnk2 : ¬ (k : Int) < (n : Int) - 1 := by have := hnA.out; have := Rq.room; have := ok.len; omega
                clear hfull
                go_wp2_with (first
                  | (go_at_call 13; refine Km.mono ?_; clear Km; rintro e w5 ⟨x, rfl, F5, M5, a5, s5, b5, x5⟩; have adA : Aside (M.Adds x (l, a, c) M5) := a5; have own5 := b5.own Rq.st Rq.own hnd; have x5A : Aside (x ≤ M.room + 1) := x5; clear x5 a5; have Kp := place_no (cap := cap') (fun i hi => own5.cell hi) (by omega) x (Rq.told.none (new_none adA.out s5.ok)))
                  | (go_at_call 26; refine Kp.mono ?_; clear Kp; rintro e w5 ⟨rfl, rfl⟩)
                  | (at_builtin; refine append_h (own5.new _) w5.heap.size (x : Int) (heap_alloc_new _ _) (by omega) (Nat.le_trans (Nat.le_trans Rq.old.size b5.size) (by simp)) rfl _ _ rfl rfl rfl ?_; intro g6 cap6 w6 o6 b6 p6; have R6 := Rq.add adA.out s5 b5 o6 b6; have Z1 := Kz.out R6; have Z2 := Z1)
                  | (go_at_call 18; refine Z1.mono ?_; clear Z1; rintro e w6 ⟨rfl, rfl⟩)
                  | (go_at_call 18; refine Z2.mono ?_; clear Z2; rintro e w6 ⟨rfl, rfl⟩))
                go_roundg (gk - 1)
                case measure => have := hI.out; omega
                case rel =>
                  have hi := hI.out
                  exact ⟨i + 1, by omega, rfl, by go_num, _, _, _, _, _, _, rfl, R6⟩
      · obtain rfl : i = len := by have := hI.out; omega
        have Ko := once_any R.st
        have oldA : Aside (Below W.heap.size W wr) := R.old
        clear R
        go_wp2_with (first
          | (go_at_call 19; refine Ko.mono ?_; clear Ko; rintro e w9 ⟨rfl, b9⟩))
        go_ret
        exact ⟨rfl, far oldA.out b9 oldA.out.size⟩
  · have hl1 : (120 : Int) < (len : Int) := by omega
    go_enter Try.func5, Try.ntmps5
    go_wp2_with (first
      | (go_at_call 8; refine K0.mono ?_; clear K0; rintro e w1 ⟨rfl, b1⟩))
    go_ret
    exact ⟨rfl, b1⟩
end Go.Proofs.Ytdmfbfbebcneeaa
