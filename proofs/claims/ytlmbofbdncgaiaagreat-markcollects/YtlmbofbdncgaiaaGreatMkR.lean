/-
  Two slices grow side by side in a drawn statement: the statement itself.
-/
import Derived.Test.YtlmbofbdncgaiaaGreatMkQ
namespace Go.Proofs.YtlmbofbdncgaiaaGreat.Mk
open Go Go.RowKit
open Rf (tab word IsTab)

/-- An append. -/
theorem op_app_p {o : Oper} {a : Act} {w w' : World} {K : Act → World → Prop} {Q : Exit → Act → World → Prop} {t1 t2 : TypeId} (s x : Operand) (hop : o.op = Op.call { callee := Callee.builtin Builtin.append, args := #[s, x], argTypes := #[t1, t2] })
    (v u r : Value) (hs : a.eval s = v) (hx : a.eval x = u) (hrun : (Builtin.append_ #[t1, t2] o.type #[v, u]).run Tryz.prog w = .ok r w')
    (hK : K (a.put o.dst r) w') : Oper.wp Tryz.prog o a w K Q := by
  unfold Oper.wp
  simp [execOp, hop, resolve, invoke, builtin, hs, hx, hrun, Result.andThen]
  exact hK
/-- What the operations tell that is known ahead. -/
def gcst (adk adt : Option Addr) (nk ck nt ct x i bq : Nat) (F : Nat → Bool) (j : Nat) : Value := if j = 0 then .slice adk nk ck else if j = 1 then .int .u32 (x : Int) else if j = 4 then .slice adt nt ct else if j = 5 then .int .i64 (i : Int) else if j = 6 then .pointer (some ⟨bq, i * 4, none⟩) else tab F
set_option maxRecDepth 100000 in
set_option maxHeartbeats 4000000 in
theorem grow_region {pos : String} {Bk nk ck ct x i bq : Nat} {adk adt : Option Addr} {Vk : Nat → Value} {ts : List (Nat → Bool)} {F : Nat → Bool} {a0 : Act} {w : World} {Q : Exit → Act → World → Prop} (hsz : 70 ≤ a0.tmps.size)
    (p4 : slot a0 4 = .pointer (some ⟨bq, 0, none⟩)) (p12 : slot a0 12 = .slice adk nk ck) (p13 : slot a0 13 = .slice adt ts.length ct) (p15 : slot a0 15 = .int .i64 (i : Int)) (p16 : slot a0 16 = .int .u32 (x : Int)) (hi4 : i < 4)
    (keep : OwnR 32 w Bk adk nk ck Vk) (kept : Rf.Own w Bk adt ts ct) (hB : Bk ≤ w.heap.size) (hnk : nk ≤ 1000) (hnt : ts.length ≤ 1000) (dis : ∀ b, At adk b → ¬ At adt b)
    (box : ∀ k, k < 4 → w.cell? ⟨bq, i * 4 + k, none⟩ = some (.int .u64 (word F k : Int))) (bql : bq < w.heap.size) (bqn : ¬ (At adk bq ∨ At adt bq))
    (done : ∀ b2 b8 g c g' c' w', OwnR 32 w' Bk (some ⟨g, 0, none⟩) (nk + 1) c (fun i => if i = nk then .int .u32 (x : Int) else Vk i) → (At adk g ∨ w.heap.size ≤ g) → Rf.Own w' Bk (some ⟨g', 0, none⟩) (ts ++ [F]) c' → (At adt g' ∨ w.heap.size ≤ g') → Went (fun b => At adk b ∨ At adt b) w w' →
      Q .normal (Rf.vfin [(60, .slice adk nk ck), (61, .int .u32 (x : Int)), (62, .slice (some ⟨b2, 0, none⟩) 1 1), (63, .slice (some ⟨g, 0, none⟩) (nk + 1) c), (64, .slice adt ts.length ct), (65, .int .i64 (i : Int)), (66, .pointer (some ⟨bq, i * 4, none⟩)), (67, tab F), (68, .slice (some ⟨b8, 0, none⟩) 1 1), (69, .slice (some ⟨g', 0, none⟩) (ts.length + 1) c'), (12, .slice (some ⟨g, 0, none⟩) (nk + 1) c), (13, .slice (some ⟨g', 0, none⟩) (ts.length + 1) c')] a0) w') :
    (Code.region 18 (#[{ dst := some 60, op := Op.move (Operand.tmp 12), type := 34, pos := pos, after := #[], guard := none }, { dst := some 61, op := Op.move (Operand.tmp 16), type := 32, pos := pos, after := #[], guard := none }, { dst := some 62, op := Op.buildSlice 34 1 #[(0, Operand.tmp 61)], type := 34, pos := pos, after := #[{ on := 1, ground := Ground.data }], guard := none }, { dst := some 63, op := Op.call { callee := Callee.builtin Builtin.append, args := #[Operand.tmp 60, Operand.tmp 62], argTypes := #[34, 34] }, type := 34, pos := pos, after := #[{ on := 0, ground := Ground.data }, { on := 2, ground := Ground.data }], guard := none }, { dst := some 64, op := Op.move (Operand.tmp 13), type := 35, pos := pos, after := #[], guard := none }, { dst := some 65, op := Op.move (Operand.tmp 15), type := 3, pos := pos, after := #[], guard := none }, { dst := some 66, op := Op.indexAddr 25 (Operand.tmp 4) (Operand.tmp 65), type := 0, pos := pos, after := #[{ on := 5, ground := Ground.data }], guard := none }, { dst := some 67, op := Op.load 24 (Operand.tmp 66), type := 24, pos := pos, after := #[{ on := 6, ground := Ground.data }], guard := none }, { dst := some 68, op := Op.buildSlice 35 1 #[(0, Operand.tmp 67)], type := 35, pos := pos, after := #[{ on := 7, ground := Ground.data }], guard := none }, { dst := some 69, op := Op.call { callee := Callee.builtin Builtin.append, args := #[Operand.tmp 64, Operand.tmp 68], argTypes := #[35, 35] }, type := 35, pos := pos, after := #[{ on := 4, ground := Ground.data }, { on := 8, ground := Ground.data }, { on := 3, ground := Ground.chain }], guard := none }, { dst := some 12, op := Op.assign (Operand.tmp 63), type := 34, pos := pos, after := #[{ on := 3, ground := Ground.data }, { on := 9, ground := Ground.chain }, { on := 0, ground := Ground.phase }, { on := 1, ground := Ground.phase }, { on := 2, ground := Ground.phase }, { on := 3, ground := Ground.phase }, { on := 4, ground := Ground.textOnly Departure.lateStores }, { on := 5, ground := Ground.textOnly Departure.lateStores }, { on := 6, ground := Ground.textOnly Departure.lateStores }, { on := 7, ground := Ground.textOnly Departure.lateStores }, { on := 8, ground := Ground.textOnly Departure.lateStores }, { on := 9, ground := Ground.textOnly Departure.lateStoresUnsure }], guard := none }, { dst := some 13, op := Op.assign (Operand.tmp 69), type := 35, pos := pos, after := #[{ on := 9, ground := Ground.data }, { on := 10, ground := Ground.chain }, { on := 0, ground := Ground.phase }, { on := 1, ground := Ground.phase }, { on := 2, ground := Ground.phase }, { on := 3, ground := Ground.phase }, { on := 4, ground := Ground.phase }, { on := 5, ground := Ground.phase }, { on := 6, ground := Ground.phase }, { on := 7, ground := Ground.phase }, { on := 8, ground := Ground.phase }, { on := 9, ground := Ground.phase }, { on := 10, ground := Ground.phase }], guard := none }] : Array Oper) true).wp Tryz.prog Q a0 w := by
  have kk : ∀ b, At adk b → b < w.drew.heap.size := fun b hb => (keep.block b hb).2
  have kt : ∀ b, At adt b → b < w.drew.heap.size := fun b hb => (kept.lt b hb).2
  refine wp_region_listed (by kernel_rfl) (fun listed a w' => ∃ val, Gf val a0 listed a ∧ Gp w.drew Bk nk ck ct x adk adt Vk ts F (gcst adk adt nk ck ts.length ct x i bq F) val listed w') (by kernel_rfl) ?_ ?_ ?_
  · rintro listed j o a w' ho hn hi hdep hcl ⟨val, g, p⟩
    have hs : listed.size = 12 := hn
    have hj12 : j < 12 := (Array.getElem?_eq_some_iff.1 ho).1
    have e10 : ∀ m, m < 4 → listed.getD 10 false = true → listed.getD m false = true := fun m hm q => by
      have : m = 0 ∨ m = 1 ∨ m = 2 ∨ m = 3 := by omega
      rcases this with rfl | rfl | rfl | rfl
      · exact hcl 10 _ q rfl { on := 0, ground := .phase } (by simp) (by decide)
      · exact hcl 10 _ q rfl { on := 1, ground := .phase } (by simp) (by decide)
      · exact hcl 10 _ q rfl { on := 2, ground := .phase } (by simp) (by decide)
      · exact hcl 10 _ q rfl { on := 3, ground := .phase } (by simp) (by decide)
    have e9 : listed.getD 9 false = true → listed.getD 3 false = true := fun q => hcl 9 _ q rfl { on := 3, ground := .chain } (by simp) (by decide)
    have e11 : ∀ m, m = 4 ∨ m = 9 → listed.getD 11 false = true → listed.getD m false = true := fun m hm q => by
      rcases hm with rfl | rfl
      · exact hcl 11 _ q rfl { on := 4, ground := .phase } (by simp) (by decide)
      · exact hcl 11 _ q rfl { on := 9, ground := .data } (by simp) (by decide)
    have no : ∀ {m}, (listed.getD m false = true → listed.getD j false = true) → listed.getD m false = false := fun {m} h => by
      cases q : listed.getD m false with
      | false => rfl
      | true => rw [h q] at hi; cases hi
    have q4 : a.tmps.getD 4 undef = .pointer (some ⟨bq, 0, none⟩) := (g.other 4 (by omega) (by omega) (by omega)).trans p4
    have q15 : a.tmps.getD 15 undef = .int .i64 (i : Int) := (g.other 15 (by omega) (by omega) (by omega)).trans p15
    have q16 : a.tmps.getD 16 undef = .int .u32 (x : Int) := (g.other 16 (by omega) (by omega) (by omega)).trans p16
    have lt12 : j = 0 ∨ j = 1 ∨ j = 2 ∨ j = 3 ∨ j = 4 ∨ j = 5 ∨ j = 6 ∨ j = 7 ∨ j = 8 ∨ j = 9 ∨ j = 10 ∨ j = 11 := by omega
    rcases lt12 with rfl | rfl | rfl | rfl | rfl | rfl | rfl | rfl | rfl | rfl | rfl | rfl
    · simp at ho
      subst ho
      have q12 : a.tmps.getD 12 undef = .slice adk nk ck := (g.o12 (no (e10 0 (by omega)))).trans p12
      refine wpOp_plain rfl rfl ?_
      go_simp
      exact ⟨_, g.step (i := 0) (by omega) hsz (gcst adk adt nk ck ts.length ct x i bq F 0) (by omega) (by omega), p.pure (by decide) (by decide) (by decide) (by decide)⟩
    · simp at ho
      subst ho
      refine wpOp_plain rfl rfl ?_
      go_simp
      exact ⟨_, g.step (i := 1) (by omega) hsz (gcst adk adt nk ck ts.length ct x i bq F 1) (by omega) (by omega), p.pure (by decide) (by decide) (by decide) (by decide)⟩
    · simp at ho
      subst ho
      have l1 := hdep { on := 1, ground := .data } (by simp) (by decide)
      have v1 : a.tmps[61]?.getD undef = .int .u32 (x : Int) := by
        have := (g.vals 1 (by omega) l1).trans (p.p0 1 (by omega) (by decide) (by decide) (by decide) (by decide) l1)
        simpa [slot, gcst] using this
      refine wpOp_plain rfl rfl ?_
      go_simp
      have k := nb w' (.cells #[.int .u32 (x : Int)] 32)
      exact ⟨_, g.step (i := 2) (by omega) hsz _ (by omega) (by omega), (p.keptBy k).set2 _ ⟨w'.heap.size, rfl, heap_alloc_new _ _, p.went.size⟩⟩
    · simp at ho
      subst ho
      have l0 := hdep { on := 0, ground := .data } (by simp) (by decide)
      have l2 := hdep { on := 2, ground := .data } (by simp) (by decide)
      have v0 : a.tmps.getD 60 undef = .slice adk nk ck := (g.vals 0 (by omega) l0).trans (p.p0 0 (by omega) (by decide) (by decide) (by decide) (by decide) l0)
      obtain ⟨b, e1, e2, e3⟩ := p.p2 l2
      have v2 : a.tmps.getD 62 undef = .slice (some ⟨b, 0, none⟩) 1 1 := (g.vals 2 (by omega) l2).trans e1
      obtain ⟨gg, c, u, hr, o1, r1, hg⟩ := run_app_h (p.k0 hi) b (x : Int) e2 (by omega) (Nat.le_trans hB p.went.size)
      refine wpOp_plain rfl rfl ?_
      refine op_app_p (.tmp 60) (.tmp 62) rfl _ _ _ (by simp [Act.eval, v0]) (by simp [Act.eval, v2]) hr ?_
      exact ⟨_, g.step (i := 3) (by omega) hsz _ (fun _ => no (e10 3 (by omega))) (by omega), p.app3 hs (no e9) r1 o1 hg kk dis⟩
    · simp at ho
      subst ho
      have q13 : a.tmps.getD 13 undef = .slice adt ts.length ct := (g.o13 (no (e11 4 (.inl rfl)))).trans p13
      refine wpOp_plain rfl rfl ?_
      go_simp
      exact ⟨_, g.step (i := 4) (by omega) hsz (gcst adk adt nk ck ts.length ct x i bq F 4) (by omega) (by omega), p.pure (by decide) (by decide) (by decide) (by decide)⟩
    · simp at ho
      subst ho
      refine wpOp_plain rfl rfl ?_
      go_simp
      exact ⟨_, g.step (i := 5) (by omega) hsz (gcst adk adt nk ck ts.length ct x i bq F 5) (by omega) (by omega), p.pure (by decide) (by decide) (by decide) (by decide)⟩
    · simp at ho
      subst ho
      have l5 := hdep { on := 5, ground := .data } (by simp) (by decide)
      have v5 : a.tmps.getD 65 undef = .int .i64 (i : Int) := (g.vals 5 (by omega) l5).trans (p.p0 5 (by omega) (by decide) (by decide) (by decide) (by decide) l5)
      have hi4' : (i : Int) < 4 := by omega
      refine wpOp_plain rfl rfl ?_
      go_simp
      exact ⟨_, g.step (i := 6) (by omega) hsz (gcst adk adt nk ck ts.length ct x i bq F 6) (by omega) (by omega), p.pure (by decide) (by decide) (by decide) (by decide)⟩
    · simp at ho
      subst ho
      have l6 := hdep { on := 6, ground := .data } (by simp) (by decide)
      have v6 : a.tmps.getD 66 undef = .pointer (some ⟨bq, i * 4, none⟩) := (g.vals 6 (by omega) l6).trans (p.p0 6 (by omega) (by decide) (by decide) (by decide) (by decide) l6)
      have bx : ∀ k, k < 4 → w'.cell? ⟨bq, i * 4 + k, none⟩ = some (.int .u64 (word F k : Int)) := fun k hk => (World.cell?_of_block (p.went.block bq bql bqn)).trans (box k hk)
      have x0 := bx 0 (by omega)
      have x1 := bx 1 (by omega)
      have x2 := bx 2 (by omega)
      have x3 := bx 3 (by omega)
      rw [Nat.add_zero] at x0
      refine wpOp_plain rfl rfl ?_
      go_simp
      exact ⟨_, g.step (i := 7) (by omega) hsz (gcst adk adt nk ck ts.length ct x i bq F 7) (by omega) (by omega), p.pure (by decide) (by decide) (by decide) (by decide)⟩
    · simp at ho
      subst ho
      have l7 := hdep { on := 7, ground := .data } (by simp) (by decide)
      have v7 : a.tmps[67]?.getD undef = tab F := by
        have := (g.vals 7 (by omega) l7).trans (p.p0 7 (by omega) (by decide) (by decide) (by decide) (by decide) l7)
        simpa [slot, gcst] using this
      unfold tab at v7
      refine wpOp_plain rfl rfl ?_
      go_simp
      have k := nb w' (.cells #[.int .u64 (word F 0 : Int), .int .u64 (word F 1 : Int), .int .u64 (word F 2 : Int), .int .u64 (word F 3 : Int)] 24)
      exact ⟨_, g.step (i := 8) (by omega) hsz _ (by omega) (by omega), (p.keptBy k).set8 _ ⟨w'.heap.size, rfl, IsTab.new w' F, p.went.size⟩⟩
    · simp at ho
      subst ho
      have l4 := hdep { on := 4, ground := .data } (by simp) (by decide)
      have l8 := hdep { on := 8, ground := .data } (by simp) (by decide)
      have l3 := hdep { on := 3, ground := .chain } (by simp) (by decide)
      have v4 : a.tmps.getD 64 undef = .slice adt ts.length ct := (g.vals 4 (by omega) l4).trans (p.p0 4 (by omega) (by decide) (by decide) (by decide) (by decide) l4)
      obtain ⟨b, e1, e2, e3⟩ := p.p8 l8
      have v8 : a.tmps.getD 68 undef = .slice (some ⟨b, 0, none⟩) 1 1 := (g.vals 8 (by omega) l8).trans e1
      obtain ⟨gg, c, u, hr, o1, r1, hg⟩ := run_app_t (p.t0 hi) F b e2 (by omega) (Nat.le_trans hB p.went.size)
      refine wpOp_plain rfl rfl ?_
      refine op_app_p (.tmp 64) (.tmp 68) rfl _ _ _ (by simp [Act.eval, v4]) (by simp [Act.eval, v8]) hr ?_
      exact ⟨_, g.step (i := 9) (by omega) hsz _ (by omega) (fun _ => no (e11 9 (.inr rfl))), p.app9 hs l3 r1 o1 hg kt dis⟩
    · simp at ho
      subst ho
      have l3 := hdep { on := 3, ground := .data } (by simp) (by decide)
      have v3 : a.tmps.getD 63 undef = val 3 := g.vals 3 (by omega) l3
      refine wpOp_plain rfl rfl ?_
      go_simp
      exact ⟨val, g.set12 hsz hs, p.pass (by omega)⟩
    · simp at ho
      subst ho
      have l9 := hdep { on := 9, ground := .data } (by simp) (by decide)
      have v9 : a.tmps.getD 69 undef = val 9 := g.vals 9 (by omega) l9
      refine wpOp_plain rfl rfl ?_
      go_simp
      exact ⟨val, g.set13 hsz hs, p.pass (by omega)⟩
  · rintro listed a w' hall ⟨val, g, p⟩
    have hl : ∀ m, m < 12 → listed.getD m false = true := fun m hm => hall m hm
    obtain ⟨b2, e2, _, _⟩ := p.p2 (hl 2 (by omega))
    obtain ⟨b8, e8, _, _⟩ := p.p8 (hl 8 (by omega))
    obtain ⟨gg, c, e3, o3, h3⟩ := p.k1 (hl 3 (by omega))
    obtain ⟨gt, ct', e9, o9, h9⟩ := p.t1 (hl 9 (by omega))
    have cv : ∀ m : Nat, m < 10 → m ≠ 2 → m ≠ 3 → m ≠ 8 → m ≠ 9 → slot a (60 + m) = gcst adk adt nk ck ts.length ct x i bq F m := fun m hm a1 a2 a3 a4 => (g.vals m hm (hl m (by omega))).trans (p.p0 m hm a1 a2 a3 a4 (hl m (by omega)))
    have ea : a = Rf.vfin [(60, .slice adk nk ck), (61, .int .u32 (x : Int)), (62, .slice (some ⟨b2, 0, none⟩) 1 1), (63, .slice (some ⟨gg, 0, none⟩) (nk + 1) c), (64, .slice adt ts.length ct), (65, .int .i64 (i : Int)), (66, .pointer (some ⟨bq, i * 4, none⟩)), (67, tab F), (68, .slice (some ⟨b8, 0, none⟩) 1 1), (69, .slice (some ⟨gt, 0, none⟩) (ts.length + 1) ct'), (12, .slice (some ⟨gg, 0, none⟩) (nk + 1) c), (13, .slice (some ⟨gt, 0, none⟩) (ts.length + 1) ct')] a0 := by
      refine Rf.vact_fin _ _ _ (by simp) g.size g.defers (fun s hs => ?_) (fun k hk => ?_)
      · simp only [List.map_cons, List.map_nil, List.mem_cons, List.not_mem_nil, or_false, not_or] at hs
        obtain ⟨s0, s1, s2, s3, s4, s5, s6, s7, s8, s9, s10, s11⟩ := hs
        have n : ∀ m : Nat, @Ne Tmp s m → (show Nat from s) ≠ m := fun m h e => h e
        have := n 60 s0; have := n 61 s1; have := n 62 s2; have := n 63 s3; have := n 64 s4; have := n 65 s5; have := n 66 s6; have := n 67 s7; have := n 68 s8; have := n 69 s9
        have z : (show Nat from s) < 60 ∨ 70 ≤ (show Nat from s) := by omega
        exact g.other s z (n 12 s10) (n 13 s11)
      · simp only [List.mem_cons, List.not_mem_nil, or_false] at hk
        rcases hk with rfl | rfl | rfl | rfl | rfl | rfl | rfl | rfl | rfl | rfl | rfl | rfl
        · exact ⟨show @LT.lt Nat _ 60 _ by omega, cv 0 (by omega) (by decide) (by decide) (by decide) (by decide)⟩
        · exact ⟨show @LT.lt Nat _ 61 _ by omega, cv 1 (by omega) (by decide) (by decide) (by decide) (by decide)⟩
        · exact ⟨show @LT.lt Nat _ 62 _ by omega, (g.vals 2 (by omega) (hl 2 (by omega))).trans e2⟩
        · exact ⟨show @LT.lt Nat _ 63 _ by omega, (g.vals 3 (by omega) (hl 3 (by omega))).trans e3⟩
        · exact ⟨show @LT.lt Nat _ 64 _ by omega, cv 4 (by omega) (by decide) (by decide) (by decide) (by decide)⟩
        · exact ⟨show @LT.lt Nat _ 65 _ by omega, cv 5 (by omega) (by decide) (by decide) (by decide) (by decide)⟩
        · exact ⟨show @LT.lt Nat _ 66 _ by omega, cv 6 (by omega) (by decide) (by decide) (by decide) (by decide)⟩
        · exact ⟨show @LT.lt Nat _ 67 _ by omega, cv 7 (by omega) (by decide) (by decide) (by decide) (by decide)⟩
        · exact ⟨show @LT.lt Nat _ 68 _ by omega, (g.vals 8 (by omega) (hl 8 (by omega))).trans e8⟩
        · exact ⟨show @LT.lt Nat _ 69 _ by omega, (g.vals 9 (by omega) (hl 9 (by omega))).trans e9⟩
        · exact ⟨show @LT.lt Nat _ 12 _ by omega, (g.n12 (hl 10 (by omega))).trans e3⟩
        · exact ⟨show @LT.lt Nat _ 13 _ by omega, (g.n13 (hl 11 (by omega))).trans e9⟩
    rw [ea]
    exact done b2 b8 gg c gt ct' w' o3 h3 o9 h9 p.went.undrew
  · refine ⟨fun _ => undef, ⟨rfl, rfl, fun _ _ _ _ => rfl, fun j hj hl => ?_, fun _ => rfl, fun hl => ?_, fun _ => rfl, fun hl => ?_⟩, ⟨fun j hj _ _ _ _ hl => ?_, fun hl => ?_, fun hl => ?_, fun _ => keep.drew, fun hl => ?_, fun _ => kept, fun hl => ?_, Went.refl _ _⟩⟩ <;> (rw [getD_start] at hl; cases hl)
end Go.Proofs.YtlmbofbdncgaiaaGreat.Mk
