/-
  Package mark: what is met below a node; Reach.
-/
import Derived.Test.YteickckgljlacaaGreatBaseS
import Derived.Test.YteickckgljlacaaGreatRsB
import Derived.Deep.LoopGhost
namespace Go.Proofs.YteickckgljlacaaGreat.Mk
open Go Go.RowKit

/-- What a list of handles tells, as a map's content. -/
def metP (ks : List Nat) : Int → Option Int := fun k => if (ks.map (fun x : Nat => (x : Int))).contains k = true then some 0 else none
theorem metP_in {ks : List Nat} {h : Nat} (c : h ∈ ks) : metP ks (h : Int) = some 0 := by
  unfold metP
  rw [if_pos]
  rw [List.contains_iff_mem]
  exact List.mem_map.2 ⟨h, c, rfl⟩
theorem metP_out {ks : List Nat} {h : Nat} (c : h ∉ ks) : metP ks (h : Int) = none := by
  unfold metP
  rw [if_neg]
  rw [List.contains_iff_mem, List.mem_map]
  rintro ⟨x, hx, e⟩
  have : x = h := by omega
  exact c (this ▸ hx)
theorem metP_snoc (ks : List Nat) (h : Nat) (k : Int) : Rm.at1 (metP ks) (h : Int) (some 0) k = metP (ks ++ [h]) k := by
  unfold Rm.at1
  by_cases e : k = (h : Int)
  · rw [if_pos e, e, metP_in (by simp)]
  · rw [if_neg e]
    unfold metP
    by_cases c : k ∈ ks.map (fun x : Nat => (x : Int))
    · rw [if_pos (List.contains_iff_mem.2 c), if_pos (List.contains_iff_mem.2 (by rw [List.map_append]; exact List.mem_append.2 (.inl c)))]
    · rw [if_neg (fun q => c (List.contains_iff_mem.1 q)), if_neg (fun q => ?_)]
      rw [List.contains_iff_mem, List.map_append, List.mem_append] at q
      rcases q with q | q
      · exact c q
      · simp at q
        exact e q
theorem metP_some {ks : List Nat} {k : Int} : (metP ks k).isSome = true ↔ ∃ x ∈ ks, (x : Int) = k := by
  unfold metP
  by_cases c : (ks.map (fun x : Nat => (x : Int))).contains k = true
  · rw [if_pos c]
    rw [List.contains_iff_mem, List.mem_map] at c
    simpa using c
  · rw [if_neg c]
    rw [List.contains_iff_mem, List.mem_map] at c
    simp
    intro x hx e
    exact c ⟨x, hx, e⟩
/-- The map in block b holds these handles. -/
def IsMet (w : World) (b : Nat) (ks : List Nat) : Prop := Rm.IsMap w b (metP ks) ks.length
theorem IsMet.lt {w : World} {b : Nat} {ks : List Nat} (h : IsMet w b ks) : b < w.heap.size := Rm.IsMap.lt h
theorem IsMet.same {w u : World} {b : Nat} {ks : List Nat} (h : IsMet w b ks) (e : u.heap[b]? = w.heap[b]?) : IsMet u b ks := Rm.IsMap.same h e

/-- What adding a node leaves. -/
structure AddP (M : Mdl) (h : Nat) (ks ms : List Nat) : Prop where
  inn : ∀ k ∈ ms, k ∈ M.hs
  kids : ∀ k ∈ ms, ((M.nd k).2.1 < 2 ∨ (M.nd k).2.1 ∈ ks ++ ms) ∧ ((M.nd k).2.2 < 2 ∨ (M.nd k).2.2 ∈ ks ++ ms)
  top : h < 2 ∨ h ∈ ks ++ ms
  only : ∀ Q : Nat → Prop, Q h → (∀ k ∈ M.hs, Q k → Q (M.nd k).2.1 ∧ Q (M.nd k).2.2) → ∀ k ∈ ms, Q k
  once : ks.Nodup → (ks ++ ms).Nodup
def AddQ (M : Mdl) (b h : Nat) (ks : List Nat) (w : World) (e : Ending) (w' : World) : Prop := e = .returned (.tuple #[]) ∧ ∃ ms, IsMet w' b (ks ++ ms) ∧ AddP M h ks ms ∧ Went (fun k => k = b) w w'
theorem AddP.none {M : Mdl} {h : Nat} {ks : List Nat} (t : h < 2 ∨ h ∈ ks) : AddP M h ks [] := ⟨fun _ h => absurd h List.not_mem_nil, fun _ h => absurd h List.not_mem_nil, by rw [List.append_nil]; exact t, fun _ _ _ _ h => absurd h List.not_mem_nil, fun n => by rwa [List.append_nil]⟩
theorem AddP.join {M : Mdl} {h : Nat} {ks m1 m2 : List Nat} (hm : h ∈ M.hs) (hk : h ∉ ks) (a : AddP M (M.nd h).2.1 (ks ++ [h]) m1) (c : AddP M (M.nd h).2.2 ((ks ++ [h]) ++ m1) m2) : AddP M h ks (h :: (m1 ++ m2)) := by
  have e : ks ++ (h :: (m1 ++ m2)) = ((ks ++ [h]) ++ m1) ++ m2 := by simp
  refine ⟨fun k hk => ?_, fun k hk => ?_, .inr (by simp), fun Q q cl k hk => ?_, fun n => ?_⟩
  · rcases List.mem_cons.1 hk with rfl | hk
    · exact hm
    · exact (List.mem_append.1 hk).elim (a.inn k) (c.inn k)
  · rw [e]
    rcases List.mem_cons.1 hk with rfl | hk
    · exact ⟨a.top.imp id fun x => List.mem_append.2 (.inl x), c.top⟩
    · rcases List.mem_append.1 hk with hk | hk
      · exact ⟨(a.kids k hk).1.imp id fun x => List.mem_append.2 (.inl x), (a.kids k hk).2.imp id fun x => List.mem_append.2 (.inl x)⟩
      · exact c.kids k hk
  · rcases List.mem_cons.1 hk with rfl | hk
    · exact q
    · exact (List.mem_append.1 hk).elim (a.only Q (cl h hm q).1 cl k) (c.only Q (cl h hm q).2 cl k)
  · rw [e]
    refine c.once (a.once ?_)
    rw [List.nodup_append]
    exact ⟨n, by simp, fun x hx y hy e => by simp at hy; exact hk (hy ▸ e ▸ hx)⟩
section
variable {w w' u : World} {S b h : Nat} {F0 : Nat → Prop} {M : Mdl}
theorem st_went (s : St w S F0 M) (hnb : ¬ F0 b) (k : Went (fun k => k = b) w u) : St u S F0 M := s.kept fun i hi => k.block i (s.lt i hi) fun e => hnb (e ▸ hi)
set_option maxRecDepth 100000 in
set_option maxHeartbeats 2000000 in
theorem add_step {ks : List Nat} (s : St w S F0 M) (hnb : ¬ F0 b) (m : IsMet w b ks) (hh : M.isNode h)
    (ih : ∀ (u : World) (c : Nat) (ls : List Nat), St u S F0 M → IsMet u b ls → M.isNode c → M.lev h < M.lev c → Calls Tryz.prog 79 #[.map (some b), .pointer (some ⟨S, 0, none⟩), .int .u32 (c : Int)] u (AddQ M b c ls u)) :
    Calls Tryz.prog 79 #[.map (some b), .pointer (some ⟨S, 0, none⟩), .int .u32 (h : Int)] w (AddQ M b h ks w) := by
  have ok := s.ok
  have hb := Mdl.isNode_lt ok hh
  have LK := Rm.map_look m (h : Int)
  by_cases c : h ∈ ks
  · rw [metP_in c] at LK
    simp only [Option.isSome_some] at LK
    have t : Aside (AddP M h ks []) := AddP.none (.inr c)
    clear c ih
    go_enter Tryz.func79, Tryz.ntmps79
    go_wp2_with fail
    refine bodyPost_ret (results_none rfl _ _ _) rfl ?_
    exact ⟨rfl, [], by rw [List.append_nil]; exact m.same (Below.heap_alloc _ _ _ m.lt), t.out, Went.new _ _ _⟩
  · rw [metP_out c] at LK
    simp only [Option.isSome_none] at LK
    by_cases c2 : h < 2
    · have c1 : (h : Int) ≤ 1 := by omega
      have t : Aside (AddP M h ks []) := AddP.none (.inl c2)
      clear c ih c2
      go_enter Tryz.func79, Tryz.ntmps79
      go_wp2_with fail
      refine bodyPost_ret (results_none rfl _ _ _) rfl ?_
      exact ⟨rfl, [], by rw [List.append_nil]; exact m.same (Below.heap_alloc _ _ _ m.lt), t.out, Went.new _ _ _⟩
    · have hm := hh.resolve_left c2
      have c1 : ¬ (h : Int) ≤ 1 := by omega
      have m0 : IsMet (w.alloc (.cells #[] 125)) b ks := m.same (Below.heap_alloc _ _ _ m.lt)
      have s0 := s.new (.cells #[] 125)
      obtain ⟨w1, hp1, m1, wt1⟩ := Rm.map_put m0 (h : Int) 0
      have m1' : IsMet w1 b (ks ++ [h]) := by
        unfold IsMet
        rw [List.length_append]
        exact m1.congr fun k => metP_snoc ks h k
      have wtA : Aside (Went (fun k => k = b) w w1) := ((Went.new _ w _).trans ⟨wt1.os, wt1.tape, wt1.output, wt1.size, wt1.block⟩)
      have s1 := st_went s hnb wtA.out
      have KA := s_low s1 h (by omega)
      rw [Mdl.lowN_in ok hm] at KA
      have l1 := ok.lo h hm
      have l2 := ok.hi h hm
      have KX := ih w1 _ _ s1 m1' l1.1 (by rw [Mdl.lev_in ok hm]; exact l1.2)
      have KB : Aside (∀ u, St u S F0 M → Calls Tryz.prog 49 #[.pointer (some ⟨S, 0, none⟩), .int .u32 (h : Int)] u fun e w' => e = .returned (.int .u32 ((M.nd h).2.2 : Int)) ∧ w' = u) := fun u su => by
        have := s_high su h (by omega)
        rwa [Mdl.highN_in ok hm] at this
      have KY : Aside (∀ u ls, St u S F0 M → IsMet u b ls → Calls Tryz.prog 79 #[.map (some b), .pointer (some ⟨S, 0, none⟩), .int .u32 ((M.nd h).2.2 : Int)] u (AddQ M b (M.nd h).2.2 ls u)) := fun u ls su mu => ih u _ ls su mu l2.1 (by rw [Mdl.lev_in ok hm]; exact l2.2)
      have fin : Aside (∀ p q, AddP M (M.nd h).2.1 (ks ++ [h]) p → AddP M (M.nd h).2.2 ((ks ++ [h]) ++ p) q → AddP M h ks (h :: (p ++ q))) := fun p q => AddP.join hm c
      have kp : Aside (∀ u, Went (fun k => k = b) w1 u → St u S F0 M) := fun u k => st_went s1 hnb k
      clear ih l1 l2 m1 m1' wt1 c c2 hm hnb ok m0 s0 m s
      generalize (M.nd h).2.1 = lo at KA KX fin
      generalize (M.nd h).2.2 = hi at KB KY fin
      go_enter Tryz.func79, Tryz.ntmps79
      go_wp2_with (first
        | (go_at_call 29; refine KA.mono ?_; clear KA; rintro e w1 ⟨rfl, rfl⟩)
        | (go_at_call 79; refine KX.mono ?_; clear KX; rintro e w3 ⟨rfl, p, m3, a3, wt3⟩; have K4 := KB.out w3 (kp.out w3 wt3); have K5 := KY.out w3 _ (kp.out w3 wt3) m3; have a3A : Aside (AddP M lo (ks ++ [h]) p) := a3; clear m3 a3)
        | (go_at_call 49; refine K4.mono ?_; clear K4; rintro e w3 ⟨rfl, rfl⟩)
        | (go_at_call 79; refine K5.mono ?_; clear K5; rintro e w5 ⟨rfl, q, m5, a5, wt5⟩))
      go_end0
      refine ⟨rfl, h :: (p ++ q), ?_, fin.out p q a3A.out a5, (wtA.out.trans wt3).trans wt5⟩
      rw [show ks ++ (h :: (p ++ q)) = ((ks ++ [h]) ++ p) ++ q by simp]
      exact m5
theorem add_any (hnb : ¬ F0 b) (d : Nat) : ∀ (w : World) (h : Nat) (ks : List Nat), M.n - M.lev h ≤ d → St w S F0 M → IsMet w b ks → M.isNode h → Calls Tryz.prog 79 #[.map (some b), .pointer (some ⟨S, 0, none⟩), .int .u32 (h : Int)] w (AddQ M b h ks w) := by
  induction d with
  | zero =>
    intro w h ks hd s m hh
    exact add_step s hnb m hh fun u c _ _ _ hc hl => by have := Mdl.lev_le s.ok hc; omega
  | succ d ih =>
    intro w h ks hd s m hh
    exact add_step s hnb m hh fun u c ls su mu hc hl => ih u c ls (by omega) su mu hc
end
end Go.Proofs.YteickckgljlacaaGreat.Mk
