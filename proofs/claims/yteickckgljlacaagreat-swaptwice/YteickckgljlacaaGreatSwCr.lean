/-
  Package count: what is reached; Size and Levels.
-/
import Derived.Test.YteickckgljlacaaGreatCtM
import Derived.Test.YteickckgljlacaaGreatCtP
import Derived.Test.YteickckgljlacaaGreatSwV
import Derived.Deep.LoopGhost
namespace Go.Proofs.YteickckgljlacaaGreat
open Go Go.RowKit

/-! ## Handles as entries -/
/-- A node with its level. -/
def ent (M : Mdl) (k : Nat) : Int × Int := ((k : Int), ((M.nd k).1 : Int))
theorem look_in (M : Mdl) {h : Nat} : ∀ {ks : List Nat}, h ∈ ks → Hm.look (ks.map (ent M)) (h : Int) = some ((M.nd h).1 : Int)
  | k :: ks, hk => by
    show (if (k : Int) = (h : Int) then some ((M.nd k).1 : Int) else Hm.look (ks.map (ent M)) (h : Int)) = _
    by_cases c : k = h
    · subst c
      rw [if_pos rfl]
    · rw [if_neg (show ¬ ((k : Int) = (h : Int)) by omega)]
      exact look_in M ((List.mem_cons.1 hk).resolve_left fun e => c e.symm)
theorem look_out (M : Mdl) {h : Nat} {ks : List Nat} (hk : h ∉ ks) : Hm.look (ks.map (ent M)) (h : Int) = none := by
  rw [Hm.look_none]
  intro p hp e
  obtain ⟨k, hk', rfl⟩ := List.mem_map.1 hp
  have : (k : Int) = (h : Int) := e
  exact hk ((show k = h by omega) ▸ hk')
theorem keys_once {M : Mdl} {w : World} {b : Nat} {ks : List Nat} (m : Hm.IsM w b (ks.map (ent M))) : ks.Nodup := by
  obtain ⟨es, ck, _, q⟩ := m
  have := q.nodup
  rw [List.map_map] at this
  exact (List.pairwise_map.1 this).imp fun h e => h (by rw [e])
/-- What adding a node leaves. -/
structure AddP (M : Mdl) (h : Nat) (ks ms : List Nat) : Prop where
  inn : ∀ k ∈ ms, k ∈ M.hs
  kids : ∀ k ∈ ms, ((M.nd k).2.1 < 2 ∨ (M.nd k).2.1 ∈ ks ++ ms) ∧ ((M.nd k).2.2 < 2 ∨ (M.nd k).2.2 ∈ ks ++ ms)
  top : h < 2 ∨ h ∈ ks ++ ms
  only : ∀ Q : Nat → Prop, Q h → (∀ k ∈ M.hs, Q k → Q (M.nd k).2.1 ∧ Q (M.nd k).2.2) → ∀ k ∈ ms, Q k
def AddQ (M : Mdl) (b h : Nat) (ks : List Nat) (w : World) (e : Ending) (w' : World) : Prop := e = .returned (.tuple #[]) ∧ ∃ ms, Hm.IsM w' b ((ks ++ ms).map (ent M)) ∧ AddP M h ks ms ∧ Went (fun k => k = b) w w'
theorem AddP.none {M : Mdl} {h : Nat} {ks : List Nat} (t : h < 2 ∨ h ∈ ks) : AddP M h ks [] := ⟨fun _ h => absurd h List.not_mem_nil, fun _ h => absurd h List.not_mem_nil, by rw [List.append_nil]; exact t, fun _ _ _ _ h => absurd h List.not_mem_nil⟩
theorem AddP.join {M : Mdl} {h : Nat} {ks m1 m2 : List Nat} (hm : h ∈ M.hs) (a : AddP M (M.nd h).2.1 (ks ++ [h]) m1) (c : AddP M (M.nd h).2.2 ((ks ++ [h]) ++ m1) m2) : AddP M h ks (h :: (m1 ++ m2)) := by
  have e : ks ++ (h :: (m1 ++ m2)) = ((ks ++ [h]) ++ m1) ++ m2 := by simp
  refine ⟨fun k hk => ?_, fun k hk => ?_, .inr (by simp), fun Q q cl k hk => ?_⟩
  · rcases List.mem_cons.1 hk with rfl | hk
    · exact hm
    · exact (List.mem_append.1 hk).elim (a.inn k) (c.inn k)
  · rw [e]
    rcases List.mem_cons.1 hk with rfl | hk
    · exact ⟨a.top.imp id fun x => List.mem_append.2 (.inl x), c.top⟩
    · rcases List.mem_append.1 hk with hk | hk
      · exact ⟨(a.kids k hk).1.imp id fun x => List.mem_append.2 (.inl x), (a.kids k hk).2.imp id fun x => List.mem_append.2 (.inl x)⟩
      · exact c.kids k hk
  · rcases List.mem_cons.1 hk with rfl | hk
    · exact q
    · exact (List.mem_append.1 hk).elim (a.only Q (cl h hm q).1 cl k) (c.only Q (cl h hm q).2 cl k)
theorem went_one {b : Nat} {w w' w'' : World} (k : Went (fun k => k = b) w w') (q : Went (fun k => k = b) w' w'') : Went (fun k => k = b) w w'' :=
  ⟨q.os.trans k.os, q.tape.trans k.tape, q.output.trans k.output, Nat.le_trans k.size q.size, fun i hi hne => (q.block i (Nat.lt_of_lt_of_le hi k.size) hne).trans (k.block i hi hne)⟩
section
variable {w w' u : World} {S b h : Nat} {F0 : Nat → Prop} {M : Mdl}
theorem St.went (s : St w S F0 M) (hnb : ¬ F0 b) (k : Went (fun k => k = b) w u) : St u S F0 M := s.kept fun i hi => k.block i (s.lt i hi) fun e => hnb (e ▸ hi)
set_option maxRecDepth 100000 in
set_option maxHeartbeats 2000000 in
theorem add_step {ks : List Nat} (s : St w S F0 M) (hnb : ¬ F0 b) (m : Hm.IsM w b (ks.map (ent M))) (hh : M.isNode h)
    (ih : ∀ (u : World) (c : Nat) (ls : List Nat), St u S F0 M → Hm.IsM u b (ls.map (ent M)) → M.isNode c → M.lev h < M.lev c → Calls Tryz.prog 77 #[.map (some b), .pointer (some ⟨S, 0, none⟩), .int .u32 (c : Int)] u (AddQ M b c ls u)) :
    Calls Tryz.prog 77 #[.map (some b), .pointer (some ⟨S, 0, none⟩), .int .u32 (h : Int)] w (AddQ M b h ks w) := by
  have ok := s.ok
  have hb := Mdl.isNode_lt ok hh
  have LK := Hm.map_look 107 Tryz.underlying107 m (h : Int)
  by_cases c : h ∈ ks
  · rw [look_in M c] at LK
    simp only [Option.getD_some, Option.isSome_some] at LK
    have t : Aside (AddP M h ks []) := AddP.none (.inr c)
    clear c ih
    go_enter Tryz.func77, Tryz.ntmps77
    go_wp2_with fail
    refine bodyPost_ret (results_none rfl _ _ _) rfl ?_
    exact ⟨rfl, [], by rw [List.append_nil]; exact m, t.out, ⟨rfl, rfl, rfl, Nat.le_refl _, fun _ _ _ => rfl⟩⟩
  · rw [look_out M c] at LK
    simp only [Option.getD_none, Option.isSome_none] at LK
    by_cases c2 : h < 2
    · have c1 : (h : Int) ≤ 1 := by omega
      have t : Aside (AddP M h ks []) := AddP.none (.inl c2)
      clear c ih c2
      go_enter Tryz.func77, Tryz.ntmps77
      go_wp2_with fail
      refine bodyPost_ret (results_none rfl _ _ _) rfl ?_
      exact ⟨rfl, [], by rw [List.append_nil]; exact m, t.out, ⟨rfl, rfl, rfl, Nat.le_refl _, fun _ _ _ => rfl⟩⟩
    · have hm := hh.resolve_left c2
      have c1 : ¬ (h : Int) ≤ 1 := by omega
      have KL := lv_any s hh
      rw [Mdl.lev_in ok hm] at KL
      obtain ⟨w1, hp1, ⟨l1, m1, _, e1⟩, wt1, sz1⟩ := Hm.map_put 107 Tryz.underlying107 m (h : Int) ((M.nd h).1 : Int)
      rw [e1 (look_out M c)] at m1
      have m1' : Hm.IsM w1 b ((ks ++ [h]).map (ent M)) := by rw [List.map_append]; exact m1
      have s1 := s.went hnb wt1
      have KA := s_low s1 h (by omega)
      rw [Mdl.lowN_in ok hm] at KA
      have l1 := ok.lo h hm
      have l2 := ok.hi h hm
      have KX := ih w1 _ _ s1 m1' l1.1 (by rw [Mdl.lev_in ok hm]; exact l1.2)
      have KB : Aside (∀ u, St u S F0 M → Calls Tryz.prog 49 #[.pointer (some ⟨S, 0, none⟩), .int .u32 (h : Int)] u fun e w' => e = .returned (.int .u32 ((M.nd h).2.2 : Int)) ∧ w' = u) := fun u su => by
        have := s_high su h (by omega)
        rwa [Mdl.highN_in ok hm] at this
      have KY : Aside (∀ u ls, St u S F0 M → Hm.IsM u b (ls.map (ent M)) → Calls Tryz.prog 77 #[.map (some b), .pointer (some ⟨S, 0, none⟩), .int .u32 ((M.nd h).2.2 : Int)] u (AddQ M b (M.nd h).2.2 ls u)) := fun u ls su mu => ih u _ ls su mu l2.1 (by rw [Mdl.lev_in ok hm]; exact l2.2)
      have fin : Aside (∀ p q, AddP M (M.nd h).2.1 (ks ++ [h]) p → AddP M (M.nd h).2.2 ((ks ++ [h]) ++ p) q → AddP M h ks (h :: (p ++ q))) := fun p q => AddP.join hm
      have wtA : Aside (Went (fun k => k = b) w w1) := wt1
      have kp : Aside (∀ u, Went (fun k => k = b) w1 u → St u S F0 M) := fun u k => s1.went hnb k
      clear ih l1 l2 e1 sz1 m1 m1' wt1 c c2 hm hnb ok
      generalize (M.nd h).1 = L at KL hp1
      generalize (M.nd h).2.1 = lo at KA KX fin
      generalize (M.nd h).2.2 = hi at KB KY fin
      go_enter Tryz.func77, Tryz.ntmps77
      go_wp2_with (first
        | (go_at_call 15; refine KL.mono ?_; clear KL; rintro e w ⟨rfl, rfl⟩)
        | (go_at_call 29; refine KA.mono ?_; clear KA; rintro e w1 ⟨rfl, rfl⟩)
        | (go_at_call 77; refine KX.mono ?_; clear KX; rintro e w3 ⟨rfl, p, m3, a3, wt3⟩; have K4 := KB.out w3 (kp.out w3 wt3); have K5 := KY.out w3 _ (kp.out w3 wt3) m3; have a3A : Aside (AddP M lo (ks ++ [h]) p) := a3; clear m3 a3)
        | (go_at_call 49; refine K4.mono ?_; clear K4; rintro e w3 ⟨rfl, rfl⟩)
        | (go_at_call 77; refine K5.mono ?_; clear K5; rintro e w5 ⟨rfl, q, m5, a5, wt5⟩))
      go_end0
      refine ⟨rfl, h :: (p ++ q), ?_, fin.out p q a3A.out a5, went_one (went_one wtA.out wt3) wt5⟩
      rw [show ks ++ (h :: (p ++ q)) = ((ks ++ [h]) ++ p) ++ q by simp]
      exact m5
theorem add_any (hnb : ¬ F0 b) (d : Nat) : ∀ (w : World) (h : Nat) (ks : List Nat), M.n - M.lev h ≤ d → St w S F0 M → Hm.IsM w b (ks.map (ent M)) → M.isNode h → Calls Tryz.prog 77 #[.map (some b), .pointer (some ⟨S, 0, none⟩), .int .u32 (h : Int)] w (AddQ M b h ks w) := by
  induction d with
  | zero =>
    intro w h ks hd s m hh
    exact add_step s hnb m hh fun u c _ _ _ hc hl => by have := Mdl.lev_le s.ok hc; omega
  | succ d ih =>
    intro w h ks hd s m hh
    exact add_step s hnb m hh fun u c ls su mu hc hl => ih u c ls (by omega) su mu hc

/-! ## A list of handles -/
/-- A slice of handles among the arguments. -/
def HsAt (w : World) (ad : Option Addr) (n : Nat) (H : Nat → Nat) : Prop :=
  n = 0 ∨ ∃ b off, ad = some ⟨b, off, none⟩ ∧ b < w.heap.size ∧ ∀ i, i < n → w.cell? ⟨b, off + i, none⟩ = some (.int .u32 (H i : Int))
theorem HsAt.kept {ad : Option Addr} {n : Nat} {H : Nat → Nat} (h : HsAt w ad n H) (k : Below w.heap.size w w') : HsAt w' ad n H := by
  rcases h with h | ⟨b, off, e, hb, hc⟩
  · exact .inl h
  · exact .inr ⟨b, off, e, Nat.lt_of_lt_of_le hb k.size, fun i hi => by rw [k.cell hb]; exact hc i hi⟩
theorem HsAt.get {b off n : Nat} {H : Nat → Nat} (h : HsAt w (some ⟨b, off, none⟩) n H) {i : Nat} (hi : i < n) : w.cell? ⟨b, off + i, none⟩ = some (.int .u32 (H i : Int)) := by
  rcases h with h | ⟨b', off', e, _, hc⟩
  · omega
  · injection e with e
    injection e with e1 e2
    subst e1 e2
    exact hc i hi
theorem HsAt.some {ad : Option Addr} {n : Nat} {H : Nat → Nat} (h : HsAt w ad n H) (hn : 0 < n) : ∃ b off, ad = .some ⟨b, off, none⟩ ∧ b < w.heap.size := by
  rcases h with h | ⟨b, off, e, hb, _⟩
  · omega
  · exact ⟨b, off, e, hb⟩
theorem HsAt.row {g n : Nat} {H : Nat → Nat} (r : w.rowIs g 38 n (fun i => .int .u32 (H i : Int))) : HsAt w (Option.some ⟨g, 0, none⟩) n H :=
  .inr ⟨g, 0, rfl, r.lt, fun i hi => by rw [Nat.zero_add]; exact r.cell hi⟩
/-- What is reached from the first j of them. -/
structure Rch (M : Mdl) (H : Nat → Nat) (j : Nat) (ks : List Nat) : Prop where
  inn : ∀ k ∈ ks, k ∈ M.hs
  closed : Closed M (· ∈ ks)
  top : ∀ i, i < j → H i < 2 ∨ H i ∈ ks
  only : ∀ Q : Nat → Prop, (∀ i, i < j → Q (H i)) → (∀ k ∈ M.hs, Q k → Q (M.nd k).2.1 ∧ Q (M.nd k).2.2) → ∀ k ∈ ks, Q k
theorem Rch.start (M : Mdl) (H : Nat → Nat) : Rch M H 0 [] := ⟨fun _ h => absurd h List.not_mem_nil, fun _ h => absurd h List.not_mem_nil, fun _ hi => absurd hi (Nat.not_lt_zero _), fun _ _ _ _ h => absurd h List.not_mem_nil⟩
theorem Rch.step {H : Nat → Nat} {j : Nat} {ks ms : List Nat} (r : Rch M H j ks) (a : AddP M (H j) ks ms) : Rch M H (j + 1) (ks ++ ms) := by
  refine ⟨fun k hk => (List.mem_append.1 hk).elim (r.inn k) (a.inn k), fun k hk => ?_, fun i hi => ?_, fun Q q cl k hk => ?_⟩
  · rcases List.mem_append.1 hk with hk | hk
    · exact ⟨(r.closed k hk).1.imp id fun x => List.mem_append.2 (.inl x), (r.closed k hk).2.imp id fun x => List.mem_append.2 (.inl x)⟩
    · exact a.kids k hk
  · by_cases c : i = j
    · subst c; exact a.top
    · exact (r.top i (by omega)).imp id fun x => List.mem_append.2 (.inl x)
  · rcases List.mem_append.1 hk with hk | hk
    · exact r.only Q (fun i hi => q i (by omega)) cl k hk
    · exact a.only Q (q j (by omega)) cl k hk
def ReachQ (M : Mdl) (n : Nat) (H : Nat → Nat) (w : World) (e : Ending) (w' : World) : Prop :=
  ((∀ i, i < n → M.isNode (H i)) ∧ ∃ b ks, e = .returned (.tuple #[.map (Option.some b), .int .i64 0]) ∧ Hm.IsM w' b (ks.map (ent M)) ∧ Rch M H n ks ∧ Below w.heap.size w w' ∧ w.heap.size ≤ b) ∨
  ((∃ i, i < n ∧ ¬ M.isNode (H i)) ∧ e = .returned (.tuple #[.map Option.none, .int .i64 101]) ∧ Below w.heap.size w w')
theorem below_map {b : Nat} (k : Below w.heap.size w u) (hb : w.heap.size ≤ b) (q : Went (fun k => k = b) u w') : Below w.heap.size w w' :=
  ⟨q.os.trans k.os, q.tape.trans k.tape, q.output.trans k.output, Nat.le_trans k.size q.size, fun i hi => (q.block i (Nat.lt_of_lt_of_le hi k.size) (by omega)).trans (k.block i hi)⟩
set_option maxRecDepth 100000 in
set_option maxHeartbeats 2000000 in
theorem reach_any {ad : Option Addr} {n cap : Nat} {H : Nat → Nat} (s : St w S F0 M) (hl : HsAt w ad n H) (hb : ∀ i, i < n → H i < 4294967296) (hn : n ≤ 1000000) :
    Calls Tryz.prog 54 #[.pointer (Option.some ⟨S, 0, none⟩), .slice ad n cap] w (ReachQ M n H w) := by
  have hmm := @run_makeMap Tryz.prog
  have hwn : IntKind.i64.wrap (n : Int) = (n : Int) := by rw [IntKind.wrap_i64]; omega
  go_enter Tryz.func54, Tryz.ntmps54
  go_wp2_with fail
  have m0 := Hm.IsM.fresh w
  have B0 := nb w (.map #[] 0)
  have s0 := s.below B0
  have hl0 := hl.kept B0
  have hnb : ¬ F0 w.heap.size := fun e => Nat.lt_irrefl _ (s.lt _ e)
  have B0A : Aside (Below w.heap.size w (w.alloc (.map #[] 0))) := B0
  generalize w.alloc (.map #[] 0) = w1 at m0 s0 hl0 B0A ⊢
  obtain ⟨b, hbe⟩ : ∃ b, w.heap.size = b := ⟨_, rfl⟩
  have lb : Aside (w.heap.size ≤ b) := Nat.le_of_eq hbe
  rw [hbe] at hnb m0
  conv in (occs := *) (Value.map (Option.some w.heap.size)) => all_goals rw [hbe]
  clear hbe hmm B0 s hl
  have KA : Aside (∀ (u : World) (c : Nat) (ks : List Nat), St u S F0 M → Hm.IsM u b (ks.map (ent M)) → M.isNode c → Calls Tryz.prog 77 #[.map (Option.some b), .pointer (Option.some ⟨S, 0, none⟩), .int .u32 (c : Int)] u (AddQ M b c ks u)) := fun u c ks su mu hc => add_any hnb _ u c ks (Nat.le_refl _) su mu hc
  have hbA : Aside (∀ i, i < n → H i < 4294967296) := hb
  have wentA : Aside (∀ u, Went (fun k => k = b) w1 u → St u S F0 M) := fun u k => s0.went hnb k
  have hlA : Aside (HsAt w1 ad n H) := hl0
  have mA : Aside (Hm.IsM w1 b []) := m0
  clear hb s0 hnb hl0 m0
  go_loopg [12, 8] n (fun g si _sh wr => ∃ (j : Nat) (ks : List Nat), j + g = n ∧ si = .int .i64 (j : Int) ∧ Aside (∀ i, i < j → M.isNode (H i)) ∧ Aside (Rch M H j ks) ∧ Aside (Hm.IsM wr b (ks.map (ent M))) ∧ Aside (Went (fun k => k = b) w1 wr))
  case atStart => exact ⟨0, [], by omega, rfl, fun i hi => absurd hi (Nat.not_lt_zero _), Rch.start M H, mA, ⟨rfl, rfl, rfl, Nat.le_refl _, fun _ _ _ => rfl⟩⟩
  case round =>
    obtain ⟨j, ks, hj, rfl, hN, hR, hM, hW⟩ := hrel
    have hJ : Aside (j + gk = n) := hj
    have hjn : j ≤ n := by omega
    clear hj
    have sr := wentA.out wr hW.out
    by_cases hlt : j < n
    · have hlt' : (j : Int) < (n : Int) := by omega
      obtain ⟨bl, off, rfl, hbl⟩ := hlA.out.some (by omega)
      have hc : wr.cell? ⟨bl, off + j, none⟩ = Option.some (.int .u32 (H j : Int)) := by
        have hne : bl ≠ b := fun e => by
          have hc := hlA.out.get hlt
          obtain ⟨es, ck, hq, _⟩ := mA.out
          rw [e] at hc
          unfold World.cell? at hc
          rw [hq] at hc
          simp at hc
        have := hW.out.block bl hbl hne
        have hc := hlA.out.get hlt
        unfold World.cell? at hc ⊢
        rw [this]
        exact hc
      have hb1 := hbA.out j hlt
      have KI := s_is sr (H j) hb1
      have hjw : IntKind.i64.wrap ((j : Int) + 1) = (j : Int) + 1 := by rw [IntKind.wrap_i64]; omega
      by_cases hnd : M.isNode (H j)
      · rw [Mdl.nodeB_true hnd] at KI
        have KX := KA.out wr (H j) ks sr hM.out hnd
        have hN2 : Aside (∀ i, i < j + 1 → M.isNode (H i)) := fun i hi => by
          by_cases c : i = j
          · rw [c]; exact hnd
          · exact hN.out i (by omega)
        have hst : Aside (∀ ms, AddP M (H j) ks ms → Rch M H (j + 1) (ks ++ ms)) := fun ms a => hR.out.step a
        have hltA : Aside (j < n) := hlt
        clear hnd hb1 hlt sr
        generalize H j = c at KI KX hc hst
        go_wp2_with (first
          | (go_at_call 31; refine KI.mono ?_; clear KI; rintro e wr ⟨rfl, rfl⟩)
          | (go_at_call 77; refine KX.mono ?_; clear KX; rintro e w3 ⟨rfl, p, m3, a3, wt3⟩; have fA : Aside (AddP M c ks p ∧ Hm.IsM w3 b ((ks ++ p).map (ent M)) ∧ Went (fun k => k = b) wr w3) := ⟨a3, m3, wt3⟩; clear a3 m3 wt3))
        go_roundg (gk - 1)
        case measure => have := hJ.out; have := hltA.out; omega
        case rel =>
          have := hJ.out
          have := hltA.out
          exact ⟨j + 1, ks ++ p, by omega, by go_num, hN2, hst.out p fA.out.1, fA.out.2.1, went_one hW.out fA.out.2.2⟩
      · rw [Mdl.nodeB_false hnd] at KI
        have bad : Aside (∃ i, i < n ∧ ¬ M.isNode (H i)) := ⟨j, hlt, hnd⟩
        clear hnd hb1 hlt KA sr
        generalize H j = c at KI hc
        go_wp2_with (first
          | (go_at_call 31; refine KI.mono ?_; clear KI; rintro e wr ⟨rfl, rfl⟩))
        go_ret2
        exact .inr ⟨bad.out, rfl, below_map B0A.out lb.out hW.out⟩
    · obtain rfl : j = n := by omega
      clear hlt hJ KA hjn
      go_wp2_with fail
      go_ret2
      exact .inl ⟨hN.out, b, ks, rfl, hM.out, hR.out, below_map B0A.out lb.out hW.out, lb.out⟩
end
end Go.Proofs.YteickckgljlacaaGreat
