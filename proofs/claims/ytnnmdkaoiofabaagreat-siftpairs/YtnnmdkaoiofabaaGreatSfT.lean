/-
  Sifting: stores with known handles and a known order; boxes of functions.
-/
import Derived.Test.YtnnmdkaoiofabaaGreatSfK
namespace Go.Proofs.YtnnmdkaoiofabaaGreat.Sf
open Go Go.RowKit
open Rf (tab word same IsTab fixF)
theorem out_tab {w w':World} (o:Out w w') {b:Nat} {F:Nat→Bool} (h:IsTab w b F):IsTab w' b F:=o b _ _ _ h (by decide)
def Sy (W w:World) (S n r:Nat) (v:Nat→Nat) (l:Kl) (b:Nat):Prop:=∃ F M,St w S F M∧M.n=n∧M.room=r∧M.v=v∧M.up≤b∧Kn M l∧Below W.heap.size W w∧∀ k,F k→W.heap.size≤k
section
variable {W w w':World} {S n r b x y:Nat} {v:Nat→Nat} {l:Kl} {X Y:Nat→Bool}
theorem new_y (W w:World) (n r:Nat) (h1:1≤n) (h8:n≤8) (r1:1≤r) (r2:r≤32768) (B:Below W.heap.size W w) :
  Calls Tryz.prog 9 #[.int .i64 (n:Int),.int .i64 (r:Int)] w fun e w'=>∃ S,e = .returned (.tuple #[.pointer (some ⟨S,0,none⟩),.int .i64 0])∧Sy W w' S n r (Od.idn n) [] 0∧Below w.heap.size w w':=by
 refine (s_new n r w h1 h8 r1 r2).mono ?_
 rintro e w' ⟨S,F,rfl,s,b,f⟩
 exact ⟨S,rfl,⟨F,_,s,rfl,rfl,rfl,Nat.le_refl _,(fun p hp=>absurd hp List.not_mem_nil),Rf.below_far B b,fun k hk=>Nat.le_trans B.size (f k hk)⟩,b⟩
theorem make_y (h:Sy W w S 8 r v l b) (hb:b+82≤r) (G:Nat→Bool) :
  Calls Tryz.prog 11 #[.pointer (some ⟨S,0,none⟩),tab G] w fun e w'=>∃ z:Nat,e = .returned (.tuple #[.int .u32 (z:Int),.bool true])∧Sy W w' S 8 r v ((z,G) :: l) (b+63)∧Out w w':=by
 obtain ⟨F,M,s,e1,e2,e3,e4,q,B,f⟩:=h
 refine (make_any s (Dep.all s.ok e1 G) (by rw [e1,e2];omega)).mono ?_
 rintro e w' ⟨x,M',rfl,⟨F',s',g⟩,m⟩
 have u:=m.up
 rw [e1] at u
 exact ⟨x,rfl,⟨F',M',s',m.grew.n.trans e1,m.grew.room.trans e2,m.grew.v.trans e3,by omega,(q.grew s.ok m.grew).cons m.node m.tbl,Wf.far B g B.size f,g.after B.size f⟩,Out.of s g⟩
end
end Go.Proofs.YtnnmdkaoiofabaaGreat.Sf
