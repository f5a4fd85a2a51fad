/-
  What each call of a finder does: its steps one by one, and what it tells.
-/
import Derived.Test.YtdmfbfbebcneeaaTbTab
namespace Go.Proofs.Ytdmfbfbebcneeaa.Tb
open Go Go.RowKit

theorem mkf : ∀ (fn : Fn) (first cap : Array Value) (w : World), (Instr.makeFunc fn first cap).run Try.prog w = .ok (.func fn first cap) w := fun _ _ _ _ => rfl
theorem next0 (F : Nat) : nextV F 0 = .nilFunc := rfl
theorem next1 (F : Nat) : nextV F 1 = .func (.func 87) #[.pointer (some ⟨F, 0, none⟩)] #[] := rfl
theorem next2 (F : Nat) : nextV F 2 = .func (.func 94) #[.pointer (some ⟨F, 0, none⟩)] #[] := rfl
theorem next3 (F : Nat) : nextV F 3 = .func (.func 101) #[.pointer (some ⟨F, 0, none⟩)] #[] := rfl

/-- A function value is stored like any other: nil, and one that is not. -/
theorem run_store_nil (w : World) (a : Addr) (m : Mode) (hc : (w.cell? a).isSome = true) (hf : w.frozen? a = false) : (store a .nilFunc m).run Try.prog w = .ok () (w.setCell a .nilFunc) := by
  rw [run_store _ _ _ _ _ rfl]
  cases h : w.cell? a with
  | none => rw [h] at hc; cases hc
  | some v => simp [hf]
theorem run_store_func (fn : Fn) (x y : Array Value) (w : World) (a : Addr) (m : Mode) (hc : (w.cell? a).isSome = true) (hf : w.frozen? a = false) : (store a (.func fn x y) m).run Try.prog w = .ok () (w.setCell a (.func fn x y)) := by
  rw [run_store _ _ _ _ _ rfl]
  cases h : w.cell? a with
  | none => rw [h] at hc; cases hc
  | some v => simp [hf]
attribute [local go_sem] run_store_nil run_store_func

/-- Block F alone may have changed. -/
def Only (F : Nat) (w w' : World) : Prop := Went (fun k => k = F) w w'
theorem Only.set (F o : Nat) (w : World) (v : Value) : Only F w (w.setCell ⟨F, o, none⟩ v) := Went.set (S := fun k => k = F) (rfl : F = F) w v

section
variable {w w' : World} {P R N T base n F : Nat} {c : Nat → Int} {ops fails : Int} {S : Fd}
theorem Sys.only {T' : Nat} (h : Sys w P R N T base n c ops fails) (k : IsFd w F T' S) (o : Only F w w') : Sys w' P R N T base n c ops fails := by
  refine h.kept fun b hb => o.block b ?_ ?_
  · rcases hb with rfl | rfl | rfl
    · exact h.mem.ltP
    · exact h.mem.ltR
    · exact h.ltT
  · rcases hb with rfl | rfl | rfl
    · exact fun e => k.neP h.mem e.symm
    · exact fun e => k.neR h.mem e.symm
    · exact fun e => k.neT h e.symm

theorem ask_any (h : IsFd w F T S) (l : Nat) :
    Calls Try.prog 78 #[.pointer (some ⟨F, 0, none⟩), .int .i64 (l : Int)] w fun e w' => e = .returned (.tuple #[]) ∧ IsFd w' F T ⟨S.key, S.slot, l, if l = 0 then 0 else 1, S.found, S.made⟩ ∧ Only F w w' := by
  have hmf := mkf
  have c3 := h.f3
  have c4 := h.f4
  have g := h.free
  have h2 := (h.set3 l).set4 0
  have h3 := h2.set4 1
  have o2 : Only F w ((w.setCell ⟨F, 3, none⟩ (.int .i64 (l : Int))).setCell ⟨F, 4, none⟩ .nilFunc) := (Only.set F 3 w _).trans (Only.set F 4 _ _)
  rw [next0] at h2
  rw [next0, next1] at h3
  have c4' : ((w.setCell ⟨F, 3, none⟩ (.int .i64 (l : Int))).setCell ⟨F, 4, none⟩ .nilFunc).cell? ⟨F, 4, none⟩ = some .nilFunc := h2.f4
  have g4' := h2.free 4
  generalize nextV F S.st = nv at c4
  by_cases hl : l = 0
  · subst hl
    rw [if_pos rfl]
    go_enter Try.func78, Try.ntmps78
    go_wp2
    go_end0
    exact ⟨rfl, h2, o2⟩
  · have hd : decide ((l : Int) > 0) = true := by simp; omega
    have hd' : (0 : Int) < (l : Int) := by omega
    rw [if_neg hl]
    clear hl
    go_enter Try.func78, Try.ntmps78
    go_wp2
    go_end0
    exact ⟨rfl, h3, o2.trans (Only.set F 4 _ _)⟩
theorem end_any (h : IsFd w F T S) :
    Calls Try.prog 93 #[.pointer (some ⟨F, 0, none⟩)] w fun e w' => e = .returned (.tuple #[]) ∧ IsFd w' F T S.over ∧ Only F w w' := by
  have c5 := h.f5
  have c4 := h.f4
  have g := h.free
  have h2 := (h.set5 true).set4 0
  rw [next0] at h2
  generalize nextV F S.st = nv at c4
  go_enter Try.func93, Try.ntmps93
  go_wp2
  go_end0
  exact ⟨rfl, h2, (Only.set F 5 w _).trans (Only.set F 4 _ _)⟩
theorem pass_any (h : Sys w P R N T base n c ops fails) (k : IsFd w F T S) (hs : S.slot < n) (hl : 0 < S.left) (hln : S.left ≤ n) :
    Calls Try.prog 95 #[.pointer (some ⟨F, 0, none⟩)] w fun e w' => e = .returned (.tuple #[]) ∧ IsFd w' F T (S.passed n) ∧ Only F w w' := by
  have c0 := k.f0
  have c2 := k.f2
  have g := k.free
  have K := behind_any h.drew S.slot hs
  have hQ : Aside (S.passed n = ⟨S.key, (S.slot + 1) % n, S.left - 1, if S.left - 1 = 0 then 0 else 1, S.found, S.made⟩) := rfl
  generalize (S.slot + 1) % n = q at K hQ
  have k2 : IsFd (w.setCell ⟨F, 2, none⟩ (.int .i64 (q : Int))).drew F T ⟨S.key, q, S.left, S.st, S.found, S.made⟩ := k.set2 q
  have o2 : Only F w (w.setCell ⟨F, 2, none⟩ (.int .i64 (q : Int))).drew := (Only.set F 2 w _).drew
  have hle := h.small
  have hro := h.room
  have c3 := k.f3
  have Ka := ask_any k2 (S.left - 1)
  have hl1 : (S.left : Int) - 1 = ((S.left - 1 : Nat) : Int) := by omega
  go_enter Try.func95, Try.ntmps95
  go_wp2_with fail
  go_region_with (first
    | (go_at_call 77; refine K.mono ?_; clear K; rintro e w1 ⟨rfl, rfl⟩))
  all_goals go_wp2_with (first
    | (go_at_call 78; refine Ka.mono ?_; clear Ka; rintro e w3 ⟨rfl, k3, o3⟩))
  all_goals (go_end0; rw [hQ.out]; exact ⟨rfl, k3, o2.trans o3⟩)

/-- The blocks that a step may change. -/
def Foot (P R F : Nat) : Nat → Prop := fun b => b = P ∨ b = R ∨ b = F
theorem foot_m {w' : World} (h : Moved P R w w') : Went (Foot P R F) w w' := Went.of_moved h (.inl rfl) (.inr (.inl rfl))
theorem foot_o {w' : World} (h : Only F w w') : Went (Foot P R F) w w' := Went.wider h fun _ e => .inr (.inr e)

theorem look_hit (h : Sys w P R N T base n c ops fails) (k : IsFd w F T S) (hs : S.slot < n) (hx : c (base + S.slot) = S.key) :
    Calls Try.prog 87 #[.pointer (some ⟨F, 0, none⟩)] w fun e w' => e = .returned (.tuple #[]) ∧ Sys w' P R N T base n c (wrap64 (ops + 1)) fails ∧ IsFd w' F T S.over ∧ Went (Foot P R F) w w' := by
  have c0 := k.f0
  have c2 := k.f2
  have K := load_any h.drew S.slot hs
  rw [hx] at K
  have hd : (S.key == S.key) = true := by simp
  go_enter Try.func87, Try.ntmps87
  go_wp2_with fail
  go_region_with (first
    | (go_at_call 76; refine K.mono ?_; clear K; rintro e w1 ⟨rfl, h1, b1⟩; have k1 : IsFd w1 F T S := k.moved h.mem b1.undrew; have c1 := k1.f1; have Ke := end_any k1))
  all_goals go_wp2_with (first
    | (go_at_call 93; refine Ke.mono ?_; clear Ke; rintro e w2 ⟨rfl, k2, o2⟩))
  all_goals (go_end0; exact ⟨rfl, h1.only k1 o2, k2, (foot_m b1.undrew).trans (foot_o o2)⟩)
theorem look_empty (h : Sys w P R N T base n c ops fails) (k : IsFd w F T S) (hs : S.slot < n) (hk : ¬ S.key = 0) (hx : c (base + S.slot) = 0) :
    Calls Try.prog 87 #[.pointer (some ⟨F, 0, none⟩)] w fun e w' => e = .returned (.tuple #[]) ∧ Sys w' P R N T base n c (wrap64 (ops + 1)) fails ∧ IsFd w' F T (S.to 2) ∧ Went (Foot P R F) w w' := by
  have hmf := mkf
  have c0 := k.f0
  have c2 := k.f2
  have K := load_any h.drew S.slot hs
  rw [hx] at K
  have hd : (0 == S.key) = false := by simp; exact fun e => hk e.symm
  have hd2 : ¬ 0 = S.key := fun e => hk e.symm
  clear hk
  go_enter Try.func87, Try.ntmps87
  go_wp2_with fail
  go_region_with (first
    | (go_at_call 76; refine K.mono ?_; clear K; rintro e w1 ⟨rfl, h1, b1⟩; have k1 : IsFd w1 F T S := k.moved h.mem b1.undrew; have c1 := k1.f1; have c4 := k1.f4; have g1 := k1.free 4))
  all_goals go_wp2_with fail
  all_goals (go_end0; exact ⟨rfl, h1.setF k1 _ _, k1.set4 2, (foot_m b1.undrew).trans (foot_o (Only.set F 4 w1 _))⟩)
theorem look_pass (h : Sys w P R N T base n c ops fails) (k : IsFd w F T S) (hs : S.slot < n) (hl : 0 < S.left) (hln : S.left ≤ n) (x : Int) (hx : c (base + S.slot) = x) (h0 : ¬ x = 0) (h1 : ¬ x = S.key) :
    Calls Try.prog 87 #[.pointer (some ⟨F, 0, none⟩)] w fun e w' => e = .returned (.tuple #[]) ∧ Sys w' P R N T base n c (wrap64 (ops + 1)) fails ∧ IsFd w' F T (S.passed n) ∧ Went (Foot P R F) w w' := by
  have c0 := k.f0
  have c2 := k.f2
  have K := load_any h.drew S.slot hs
  rw [hx] at K
  have hd : (x == S.key) = false := by simpa using h1
  have hd2 : (x == 0) = false := by simpa using h0
  go_enter Try.func87, Try.ntmps87
  go_wp2_with fail
  go_region_with (first
    | (go_at_call 76; refine K.mono ?_; clear K; rintro e w1 ⟨rfl, h1, b1⟩; have k1 : IsFd w1 F T S := k.moved h.mem b1.undrew; have c1 := k1.f1; have Kp := pass_any h1 k1 hs hl hln))
  all_goals go_wp2_with (first
    | (go_at_call 95; refine Kp.mono ?_; clear Kp; rintro e w2 ⟨rfl, k2, o2⟩))
  all_goals (go_end0; exact ⟨rfl, h1.only k1 o2, k2, (foot_m b1.undrew).trans (foot_o o2)⟩)
end
end Go.Proofs.Ytdmfbfbebcneeaa.Tb
