/-
  Sifting: stores with known handles and a known order; boxes of functions.
  Sifting: it never grows; two functions in a store; which roots are unlike.
-/
import Derived.Test.YtnnmdkaoiofabaaGreatSfK
import Derived.Test.YtnnmdkaoiofabaaGreatSfS


namespace Go.Proofs.YtnnmdkaoiofabaaGreat.Sf
open Go Go.RowKit
open Rf (tab word same IsTab fixF)
open Sw (posN tab_kept)
open Mk (HsAt at2)
theorem posN_lt {v:Nat→Nat}{x:Nat}:∀{n:Nat},0<n→posN v x n<n
 | 0,h=>absurd h (Nat.lt_irrefl _)
 | n+1,_=>by
  rw[posN];by_cases e:v n=x
  ·rw[if_pos e];omega
  ·rw[if_neg e];rcases Nat.eq_zero_or_pos n with h|h
   ·subst h;rw[posN];omega
   ·have:=posN_lt (v:=v) (x:=x) h;omega
theorem nxV_le {n:Nat}(hn:0<n) (sz:(Nat→Nat)→Nat) (v:Nat→Nat) (x:Nat):sz (nxV n sz v x)≤sz v:=by
 have h2:sz (nxV n sz v x)≤sz (mv v (posN v x n) (posN v x n)):=bst_le (fun q=>sz (mv v (posN v x n) q)) (posN_lt (v:=v) (x:=x) hn);rwa [mv_self]at h2
theorem sfI_le {n:Nat}(hn:0<n) (sz:(Nat→Nat)→Nat) (v:Nat→Nat) (xs:List Nat):∀i,sz (sfI n sz v xs i)≤sz v
 | 0=>Nat.le_refl _
 | i+1=>Nat.le_trans (nxV_le hn sz _ _) (sfI_le hn sz v xs i)
section
variable {w w':World}{S n0:Nat}{F:Nat→Prop}{M M':Mdl}{H:Nat→Nat}{e:Ending}{zs xs ks:List Nat}{F':Nat→Prop}
theorem SiftP.root (q:SiftP w S F M n0 H e w' zs xs ks F' M'){i:Nat}(hi:i<n0):M'.isNode (H i)∧M'.tbl (H i)=M.tbl (H i):=by
 by_cases c:H i<2
 ·refine⟨.inl c,funext fun y=>?_⟩
  have:H i=0∨H i=1:=by omega
  rcases this with e|e <;> rw[e]
  ·exact(Mdl.val_zero _).trans (Mdl.val_zero _).symm
  ·exact(Mdl.val_one _).trans (Mdl.val_one _).symm
 ·obtain⟨j,hj,ej⟩:=rtH_of ((q.unl.mem (H i)).2 ⟨by omega,i,hi,rfl⟩);rw[← ej];exact⟨q.rts.node j hj,q.rts.tbl j hj⟩
end
structure Tq (W w:World) (S:Nat) (F G:Nat→Bool) (a b bf bg:Nat) (Fs:Nat→Prop) (M:Mdl):Prop where
 st:St w S Fs M
 na:M.isNode a∧Eqt (M.tbl a) F
 nb:M.isNode b∧Eqt (M.tbl b) G
 base:Below W.heap.size W w
 far:∀k,Fs k→W.heap.size≤k
 tf:IsTab w bf F
 tg:IsTab w bg G
end Go.Proofs.YtnnmdkaoiofabaaGreat.Sf
