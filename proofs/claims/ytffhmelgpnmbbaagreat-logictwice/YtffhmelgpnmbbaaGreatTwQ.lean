/-
  LogicTwice: what was made is kept, and how many nodes there are: whatever the order.
-/
import Derived.Test.YtffhmelgpnmbbaaGreatTwP
namespace Go.Proofs.YtffhmelgpnmbbaaGreat
open Go Go.RowKit

structure KG (w0 : World) (S bl z1 z2 z3 z4 z5 : Nat) (nv : Int) (a0 : Act) (listed : Array Bool) (a : Act) (w : World) : Prop where
  size : a.tmps.size = a0.tmps.size
  defers : a.defers = a0.defers
  other : ∀ s : Nat, s ≠ 13 → s ≠ 91 → s ≠ 92 → s ≠ 93 → slot a s = slot a0 s
  v0 : listed.getD 0 false = true → slot a 91 = .agg #[.int .u32 (z1 : Int), .int .u32 (z2 : Int), .int .u32 (z3 : Int), .int .u32 (z4 : Int), .int .u32 (z5 : Int)]
  v1 : listed.getD 1 false = true → slot a 92 = .pointer (some ⟨S, 0, none⟩)
  v2 : listed.getD 2 false = true → slot a 93 = .int .i64 nv
  v4 : listed.getD 4 false = true → slot a 13 = .int .i64 nv
  world : w = (if listed.getD 3 false = true then laid5 w0 bl (.int .u32 (z1 : Int)) (.int .u32 (z2 : Int)) (.int .u32 (z3 : Int)) (.int .u32 (z4 : Int)) (.int .u32 (z5 : Int)) else w0)
theorem nn {a b : Nat} (h : a ≠ b) : @Ne Tmp a b := h
set_option maxRecDepth 100000 in
set_option maxHeartbeats 2000000 in
theorem keep_region {pos : String} {S bl g5 z1 z2 z3 z4 z5 : Nat} {F : Nat → Prop} {M : Mdl} {a0 : Act} {w : World} {Q : Exit → Act → World → Prop} {l1 l2 l3 l4 l5 : Value} (hsz : a0.tmps.size = 97)
    (p9 : slot a0 9 = .pointer (some ⟨S, 0, none⟩)) (p12 : slot a0 12 = .pointer (some ⟨bl, 0, none⟩)) (p15 : slot a0 15 = .pointer (some ⟨g5, 0, none⟩)) (st : St w S F M) (I5 : Is5 w g5 (.int .u32 (z1 : Int)) (.int .u32 (z2 : Int)) (.int .u32 (z3 : Int)) (.int .u32 (z4 : Int)) (.int .u32 (z5 : Int))) (lb : Is5 w bl l1 l2 l3 l4 l5)
    (done : Q .normal (Rf.vfin [(91, .agg #[.int .u32 (z1 : Int), .int .u32 (z2 : Int), .int .u32 (z3 : Int), .int .u32 (z4 : Int), .int .u32 (z5 : Int)]), (92, .pointer (some ⟨S, 0, none⟩)), (93, .int .i64 (M.hs.length : Int)), (13, .int .i64 (M.hs.length : Int))] a0) (laid5 w.drew bl (.int .u32 (z1 : Int)) (.int .u32 (z2 : Int)) (.int .u32 (z3 : Int)) (.int .u32 (z4 : Int)) (.int .u32 (z5 : Int)))) :
    (Code.region 14 (#[{ dst := some 91, op := .load 47 (.tmp 15), type := 47, pos := pos, after := #[], guard := none }, { dst := some 92, op := .move (.tmp 9), type := 26, pos := pos, after := #[], guard := none }, { dst := some 93, op := .call { callee := .value (.func 11), args := #[.tmp 92], argTypes := #[26] }, type := 3, pos := pos, after := #[{ on := 1, ground := .data }], guard := none }, { dst := none, op := .store 47 (.tmp 12) (.tmp 91), type := 0, pos := pos, after := #[{ on := 0, ground := .data }, { on := 2, ground := .chain }, { on := 0, ground := .phase }, { on := 1, ground := .textOnly .lateStores }, { on := 2, ground := .textOnly .lateStoresUnsure }], guard := none }, { dst := some 13, op := .assign (.tmp 93), type := 3, pos := pos, after := #[{ on := 2, ground := .data }, { on := 3, ground := .chain }, { on := 0, ground := .phase }, { on := 1, ground := .phase }, { on := 2, ground := .phase }, { on := 3, ground := .phase }], guard := none }]) true).wp Tryz.prog Q a0 w := by
  refine wp_region_listed (by kernel_rfl) (KG w.drew S bl z1 z2 z3 z4 z5 (M.hs.length : Int) a0) (by kernel_rfl) ?_ ?_ ?_
  · intro listed i o a w' ho hn hi hdep hcl g
    have hi5 : i < 5 := (Array.getElem?_eq_some_iff.1 ho).1
    have hls : listed.size = 5 := hn
    have c3 : listed.getD 3 false = true → listed.getD 0 false = true ∧ listed.getD 2 false = true := fun q => ⟨hcl 3 _ q rfl { on := 0, ground := .data } (by simp) (by decide), hcl 3 _ q rfl { on := 2, ground := .chain } (by simp) (by decide)⟩
    have c2 : listed.getD 2 false = true → listed.getD 1 false = true := fun q => hcl 2 _ q rfl { on := 1, ground := .data } (by simp) (by decide)
    have n3 : i < 3 → listed.getD 3 false = false := fun h => by
      cases e : listed.getD 3 false with
      | false => rfl
      | true =>
        obtain ⟨h0, h2⟩ := c3 e
        have h1 := c2 h2
        have ci : i = 0 ∨ i = 1 ∨ i = 2 := by omega
        rcases ci with rfl | rfl | rfl
        · rw [h0] at hi; cases hi
        · rw [h1] at hi; cases hi
        · rw [h2] at hi; cases hi
    have r9 : a.tmps.getD 9 undef = .pointer (some ⟨S, 0, none⟩) := (g.other 9 (by decide) (by decide) (by decide) (by decide)).trans p9
    have r12 : a.tmps.getD 12 undef = .pointer (some ⟨bl, 0, none⟩) := (g.other 12 (by decide) (by decide) (by decide) (by decide)).trans p12
    have r15 : a.tmps.getD 15 undef = .pointer (some ⟨g5, 0, none⟩) := (g.other 15 (by decide) (by decide) (by decide) (by decide)).trans p15
    have sz : a.tmps.size = 97 := g.size.trans hsz
    have put : ∀ (s : Nat) (v : Value) (l : Array Bool) (u : World), s = 13 ∨ s = 91 ∨ s = 92 ∨ s = 93 → (l.getD 0 false = true → slot (a.put (some s) v) 91 = .agg #[.int .u32 (z1 : Int), .int .u32 (z2 : Int), .int .u32 (z3 : Int), .int .u32 (z4 : Int), .int .u32 (z5 : Int)]) → (l.getD 1 false = true → slot (a.put (some s) v) 92 = .pointer (some ⟨S, 0, none⟩)) → (l.getD 2 false = true → slot (a.put (some s) v) 93 = .int .i64 (M.hs.length : Int)) → (l.getD 4 false = true → slot (a.put (some s) v) 13 = .int .i64 (M.hs.length : Int)) → u = (if l.getD 3 false = true then laid5 w.drew bl (.int .u32 (z1 : Int)) (.int .u32 (z2 : Int)) (.int .u32 (z3 : Int)) (.int .u32 (z4 : Int)) (.int .u32 (z5 : Int)) else w.drew) → KG w.drew S bl z1 z2 z3 z4 z5 (M.hs.length : Int) a0 l (a.put (some s) v) u := fun s v l u hs h0 h1 h2 h4 hu =>
      ⟨by simp [Act.put, g.size], by simp [Act.put, g.defers], fun t t1 t2 t3 t4 => by
        rw [slot_put_ne _ (show @Ne Nat s t by rcases hs with rfl | rfl | rfl | rfl <;> omega)]
        exact g.other t t1 t2 t3 t4, h0, h1, h2, h4, hu⟩
    have ci : i = 0 ∨ i = 1 ∨ i = 2 ∨ i = 3 ∨ i = 4 := by omega
    rcases ci with rfl | rfl | rfl | rfl | rfl
    · simp at ho
      subst ho
      have n := n3 (by omega)
      have hw := g.world
      rw [n] at hw
      simp at hw
      subst hw
      obtain ⟨y0, y1, y2, y3, y4⟩ := (show Is5 w.drew g5 (.int .u32 (z1 : Int)) (.int .u32 (z2 : Int)) (.int .u32 (z3 : Int)) (.int .u32 (z4 : Int)) (.int .u32 (z5 : Int)) from I5).cells
      refine wpOp_plain rfl rfl ?_
      go_simp
      refine put 91 _ _ _ (by omega) (fun _ => slot_put_eq _ (by rw [sz]; decide)) (fun h => ?_) (fun h => ?_) (fun h => ?_) (by rw [getD_set_ne false (show (0 : Nat) ≠ 3 by decide), n]; simp)
      · rw [getD_set_ne false (by omega)] at h; rw [slot_put_ne _ (nn (by decide))]; exact g.v1 h
      · rw [getD_set_ne false (by omega)] at h; rw [slot_put_ne _ (nn (by decide))]; exact g.v2 h
      · rw [getD_set_ne false (by omega)] at h; rw [slot_put_ne _ (nn (by decide))]; exact g.v4 h
    · simp at ho
      subst ho
      have n := n3 (by omega)
      have hw := g.world
      rw [n] at hw
      simp at hw
      subst hw
      refine wpOp_plain rfl rfl ?_
      go_simp
      refine put 92 _ _ _ (by omega) (fun h => ?_) (fun _ => slot_put_eq _ (by rw [sz]; decide)) (fun h => ?_) (fun h => ?_) (by rw [getD_set_ne false (show (1 : Nat) ≠ 3 by decide), n]; simp)
      · rw [getD_set_ne false (by omega)] at h; rw [slot_put_ne _ (nn (by decide))]; exact g.v0 h
      · rw [getD_set_ne false (by omega)] at h; rw [slot_put_ne _ (nn (by decide))]; exact g.v2 h
      · rw [getD_set_ne false (by omega)] at h; rw [slot_put_ne _ (nn (by decide))]; exact g.v4 h
    · simp at ho
      subst ho
      have n := n3 (by omega)
      have hw := g.world
      rw [n] at hw
      simp at hw
      subst hw
      have q0 : a.tmps.getD 92 undef = .pointer (some ⟨S, 0, none⟩) := g.v1 (hdep { on := 1, ground := .data } (by simp) (by decide))
      have KL : Calls Tryz.prog 11 #[.pointer (some ⟨S, 0, none⟩)] w.drew fun e u => e = .returned (.int .i64 (M.hs.length : Int)) ∧ u = w.drew := s_len st.drew
      refine wpOp_plain rfl rfl ?_
      go_simp
      refine KL.mono ?_
      rintro e u ⟨rfl, rfl⟩
      refine put 93 _ _ _ (by omega) (fun h => ?_) (fun h => ?_) (fun _ => slot_put_eq _ (by rw [sz]; decide)) (fun h => ?_) (by rw [getD_set_ne false (show (2 : Nat) ≠ 3 by decide), n]; simp)
      · rw [getD_set_ne false (by omega)] at h; rw [slot_put_ne _ (nn (by decide))]; exact g.v0 h
      · rw [getD_set_ne false (by omega)] at h; rw [slot_put_ne _ (nn (by decide))]; exact g.v1 h
      · rw [getD_set_ne false (by omega)] at h; rw [slot_put_ne _ (nn (by decide))]; exact g.v4 h
    · simp at ho
      subst ho
      have hw := g.world
      rw [hi] at hw
      simp at hw
      have q0 : a.tmps.getD 91 undef = .agg #[.int .u32 (z1 : Int), .int .u32 (z2 : Int), .int .u32 (z3 : Int), .int .u32 (z4 : Int), .int .u32 (z5 : Int)] := g.v0 (hdep { on := 0, ground := .data } (by simp) (by decide))
      have lb' : Is5 w' bl l1 l2 l3 l4 l5 := by rw [hw]; exact lb
      obtain ⟨m0, m1, m2, m3, m4⟩ := lb'.cells
      have e0 := lb'.free 0
      have e1 := lb'.free 1
      have e2 := lb'.free 2
      have e3 := lb'.free 3
      have e4 := lb'.free 4
      have fin : KG w.drew S bl z1 z2 z3 z4 z5 (M.hs.length : Int) a0 (listed.setIfInBounds 3 true) a (laid5 w' bl (.int .u32 (z1 : Int)) (.int .u32 (z2 : Int)) (.int .u32 (z3 : Int)) (.int .u32 (z4 : Int)) (.int .u32 (z5 : Int))) := by
        refine ⟨g.size, g.defers, g.other, fun h => g.v0 (by rwa [getD_set_ne false (by omega)] at h), fun h => g.v1 (by rwa [getD_set_ne false (by omega)] at h), fun h => g.v2 (by rwa [getD_set_ne false (by omega)] at h), fun h => g.v4 (by rwa [getD_set_ne false (by omega)] at h), ?_⟩
        rw [if_pos (by simp [hls]), hw]
      clear hw put
      unfold laid5 at fin
      refine wpOp_plain rfl rfl ?_
      go_simp
      try exact fin
    · simp at ho
      subst ho
      have h3 : listed.getD 3 false = true := hdep { on := 3, ground := .chain } (by simp) (by decide)
      have q0 : a.tmps.getD 93 undef = .int .i64 (M.hs.length : Int) := g.v2 (hdep { on := 2, ground := .data } (by simp) (by decide))
      refine wpOp_plain rfl rfl ?_
      go_simp
      refine put 13 _ _ _ (by omega) (fun h => ?_) (fun h => ?_) (fun h => ?_) (fun _ => slot_put_eq _ (by rw [sz]; decide)) (by rw [getD_set_ne false (by omega)]; exact g.world)
      · rw [getD_set_ne false (by omega)] at h; rw [slot_put_ne _ (nn (by decide))]; exact g.v0 h
      · rw [getD_set_ne false (by omega)] at h; rw [slot_put_ne _ (nn (by decide))]; exact g.v1 h
      · rw [getD_set_ne false (by omega)] at h; rw [slot_put_ne _ (nn (by decide))]; exact g.v2 h
  · intro listed a w' hall g
    have h3 := hall 3 (by show 3 < 5; omega)
    have ew := g.world
    rw [if_pos h3] at ew
    have ea : a = Rf.vfin [(91, .agg #[.int .u32 (z1 : Int), .int .u32 (z2 : Int), .int .u32 (z3 : Int), .int .u32 (z4 : Int), .int .u32 (z5 : Int)]), (92, .pointer (some ⟨S, 0, none⟩)), (93, .int .i64 (M.hs.length : Int)), (13, .int .i64 (M.hs.length : Int))] a0 := by
      refine Rf.vact_fin _ _ _ (by simp) g.size g.defers (fun s hs => g.other s (fun e => hs (by rw [show s = 13 from e]; simp)) (fun e => hs (by rw [show s = 91 from e]; simp)) (fun e => hs (by rw [show s = 92 from e]; simp)) (fun e => hs (by rw [show s = 93 from e]; simp))) (fun k hk => ?_)
      rw [hsz]
      simp only [List.mem_cons, List.not_mem_nil, or_false] at hk
      rcases hk with rfl | rfl | rfl | rfl
      · exact ⟨show @LT.lt Nat _ 91 97 by omega, g.v0 (hall 0 (by show 0 < 5; omega))⟩
      · exact ⟨show @LT.lt Nat _ 92 97 by omega, g.v1 (hall 1 (by show 1 < 5; omega))⟩
      · exact ⟨show @LT.lt Nat _ 93 97 by omega, g.v2 (hall 2 (by show 2 < 5; omega))⟩
      · exact ⟨show @LT.lt Nat _ 13 97 by omega, g.v4 (hall 4 (by show 4 < 5; omega))⟩
    rw [ea, ew]
    exact done
  · refine ⟨rfl, rfl, fun _ _ _ _ _ => rfl, fun h => ?_, fun h => ?_, fun h => ?_, fun h => ?_, ?_⟩
    · rw [getD_start] at h; cases h
    · rw [getD_start] at h; cases h
    · rw [getD_start] at h; cases h
    · rw [getD_start] at h; cases h
    · rw [getD_start]; simp
end Go.Proofs.YtffhmelgpnmbbaaGreat
