/-
  A row of handles in a block, all else as it was; what comparing and exchanging two of them does. The library's insertion sort over a row of handles. The library's reversing of a part of a row, and its choice of a pivot.
-/
import Derived.Test.YtnnmdkaoiofabaaGreatProg
import Derived.WalkKit
import Derived.Handy
import Derived.Carry
import Derived.Deep.OwnRows
import Derived.Deep.QuietTactic
import Derived.Deep.LoopGhost
import Derived.BigQuiet
import Derived.BigRegion
import Derived.Sort.AssemblyPlain
namespace Go.Proofs.YtnnmdkaoiofabaaGreat.Rs
open Go Go.RowKit
structure Went (S:Nat→Prop) (w w':World):Prop where
 os:w'.os=w.os
 tape:w'.tape=w.tape
 output:w'.output=w.output
 size:w.heap.size≤w'.heap.size
 block:∀k,k<w.heap.size→¬S k→w'.heap[k]? = w.heap[k]?
namespace Went
variable {S S':Nat→Prop}{a b c w w':World}
theorem refl (S:Nat→Prop) (w:World):Went S w w:=⟨rfl,rfl,rfl,Nat.le_refl _,fun _ _ _=>rfl⟩
theorem trans (h:Went S a b) (k:Went S b c):Went S a c:=
 ⟨k.os.trans h.os,k.tape.trans h.tape,k.output.trans h.output,Nat.le_trans h.size k.size,fun i hi hs=>(k.block i (Nat.lt_of_lt_of_le hi h.size) hs).trans (h.block i hi hs)⟩
theorem wider (h:Went S a b) (k:∀i,S i→S' i):Went S' a b:=⟨h.os,h.tape,h.output,h.size,fun i hi hs=>h.block i hi fun e=>hs (k i e)⟩
theorem old (h:Went S a b) (k:∀i,i<a.heap.size→S i→S' i):Went S' a b:=⟨h.os,h.tape,h.output,h.size,fun i hi hs=>h.block i hi fun e=>hs (k i hi e)⟩
theorem below {B:Nat}(h:Went S w w') (hB:B≤w.heap.size) (hS:∀i,S i→B≤i):Below B w w':=
 ⟨h.os,h.tape,h.output,h.size,fun k hk=>h.block k (by omega) fun e=>by have:=hS k e;omega⟩
theorem set {k o:Nat}(h:S k) (w:World) (v:Value):Went S w (w.setCell ⟨k,o,none⟩ v):=
 ⟨rfl,rfl,rfl,by simp[World.setCell],fun i _ hs=>Below.heap_setCell _ _ _ _ fun e=>hs (e ▸ h)⟩
theorem new (S:Nat→Prop) (w:World) (o:Obj):Went S w (w.alloc o):=⟨rfl,rfl,rfl,by simp,fun k hk _=>Below.heap_alloc _ _ _ hk⟩
theorem drew (h:Went S a b):Went S a b.drew:=⟨h.os,h.tape,h.output,h.size,h.block⟩
theorem drewN (h:Went S a b) (q:Nat):Went S a (b.drewN q):=⟨h.os,h.tape,h.output,h.size,h.block⟩
end Went
def rowf (d:Array Int) (U:Nat→Value):Nat→Value:=fun i=>if i<d.size then .int .u32 d[i]! else U i
structure Rw (w0:World) (blk cap:Nat) (U:Nat→Value) (d:Array Int) (w:World):Prop where
 row:w.rowIs blk 36 cap (rowf d U)
 le:d.size≤cap
 went:Went (fun k=>k=blk) w0 w
 old:blk<w0.heap.size
section
variable {w0 w:World}{blk cap:Nat}{U:Nat→Value}{d:Array Int}
theorem Rw.cell (h:Rw w0 blk cap U d w){i:Nat}(hi:i<d.size):w.cell? ⟨blk,i,none⟩=some (.int .u32 d[i]!):=by
 have:=h.row.cell (i:=i) (by have:=h.le;omega);rw[this,rowf,if_pos hi]
theorem Rw.free (h:Rw w0 blk cap U d w) (i:Nat):w.frozen? ⟨blk,i,none⟩=false:=h.row.frozen i
theorem Rw.drew (h:Rw w0 blk cap U d w):Rw w0 blk cap U d w.drew:=⟨h.row.drew,h.le,h.went.drew,h.old⟩
theorem Rw.drewN (h:Rw w0 blk cap U d w) (q:Nat):Rw w0 blk cap U d (w.drewN q):=⟨h.row.of_block rfl,h.le,h.went.drewN q,h.old⟩
theorem Rw.alloc (h:Rw w0 blk cap U d w) (o:Obj):Rw w0 blk cap U d (w.alloc o):=⟨h.row.alloc o,h.le,h.went.trans (Went.new _ _ _),h.old⟩
theorem Rw.setNew (h:Rw w0 blk cap U d w){b:Nat}(hb:w0.heap.size≤b) (o:Nat) (v:Value):Rw w0 blk cap U d (w.setCell ⟨b,o,none⟩ v):=
 ⟨h.row.setOther (by have:=h.old;show blk≠b;omega) v,h.le,(h.went.wider (S':=fun k=>k=blk∨w0.heap.size≤k) fun _ e=>.inl e).trans (Went.set (.inr hb) w v) |>.old fun i hi e=>e.elim id fun e=>by omega,h.old⟩
theorem Rw.size_le (h:Rw w0 blk cap U d w):w0.heap.size≤w.heap.size:=h.went.size
theorem get_set (d:Array Int) (i:Nat) (v:Int) (hi:i<d.size) (k:Nat):(d.setIfInBounds i v)[k]! = if k=i then v else d[k]!:=by
 by_cases e:k=i
 ·subst e;rw[if_pos rfl,getElem!_pos _ k (by simpa using hi)];simp
 ·rw[if_neg e];by_cases hk:k<d.size
  ·rw[getElem!_pos _ k (by simpa using hk),getElem!_pos d k hk];rw[Array.getElem_setIfInBounds_ne _ (by omega)]
  ·rw[getElem!_neg _ k (by simpa using hk),getElem!_neg d k hk]
theorem Rw.set (h:Rw w0 blk cap U d w) (i:Nat) (hi:i<d.size) (v:Int):Rw w0 blk cap U (d.setIfInBounds i v) (w.setCell ⟨blk,i,none⟩ (.int .u32 v)):=by
 refine⟨(h.row.set i _).congr fun j hj=>?_,by simpa using h.le,h.went.trans (Went.set (S:=fun k=>k=blk) rfl w _),h.old⟩;unfold rowf;simp only[Array.size_setIfInBounds,get_set d i v hi];by_cases e:j=i
 ·subst e;simp[hi]
 ·simp[e]
theorem Rw.swp (h:Rw w0 blk cap U d w) (i j:Nat) (hi:i<d.size) (hj:j<d.size) :
  Rw w0 blk cap U (Sort.swp d i j) ((w.setCell ⟨blk,i,none⟩ (.int .u32 d[j]!)).setCell ⟨blk,j,none⟩ (.int .u32 d[i]!)):=
 (h.set i hi d[j]!).set j (by simpa using hj) d[i]!
theorem Rw.cell2 (h:Rw w0 blk cap U d w) (i j:Nat) (hi:i<d.size) (hj:j<d.size) (v:Int):∃u,(w.setCell ⟨blk,i,none⟩ (.int .u32 v)).cell? ⟨blk,j,none⟩=some u:=
 ⟨_,(h.set i hi v).cell (by simpa using hj)⟩
end
theorem size_swp (d:Array Int) (i j:Nat):(Sort.swp d i j).size=d.size:=by simp[Sort.swp]
theorem isNaN_any (x:Int) (w:World):Calls Tryz.prog 159 #[.int .u32 x] w fun e w'=>e = .returned (.bool false)∧w'=w:=by
 go_enter Tryz.func159,Tryz.ntmps159
 go_wp2
 go_ret
 simp
theorem less_any (x y:Int) (w:World):Calls Tryz.prog 133 #[.int .u32 x,.int .u32 y] w fun e w'=>e = .returned (.bool (Sort.ltInt x y))∧w'=w:=by
 have K:=fun x=>isNaN_any x w
 go_enter Tryz.func133,Tryz.ntmps133
 go_wp2_with (go_at_call 159;refine(K _).mono ?_;rintro e w' ⟨rfl,rfl⟩)
 go_ret
 exact⟨rfl,rfl⟩
end Go.Proofs.YtnnmdkaoiofabaaGreat.Rs
namespace Go.Proofs.YtnnmdkaoiofabaaGreat.Rs
open Go Go.RowKit
abbrev lt := Sort.ltInt
theorem insInner_go (a j:Nat) (d:Array Int) (h:a<j+1) (hl:lt d[j+1]! d[j]! = true):Sort.insInner lt a (j+1) d=Sort.insInner lt a j (Sort.swp d (j+1) j):=by
 rw[Sort.insInner,if_pos];simp only[hl,Bool.and_true,decide_eq_true_eq];omega
theorem insInner_end (a j:Nat) (d:Array Int) (h:j≤a∨lt d[j]! d[j-1]! = false):Sort.insInner lt a j d=d:=by
 cases j with
 | zero=>rfl
 | succ j =>
  rw[Sort.insInner,if_neg];rcases h with h|h
  ·simp only[Bool.and_eq_true,decide_eq_true_eq,not_and];intro e;omega
  ·rw[show j+1-1=j by omega]at h;rw[h];simp
theorem insOuter_go (a b i:Nat) (d:Array Int) (h:i<b):Sort.insOuter lt a b i d=Sort.insOuter lt a b (i+1) (Sort.insInner lt a i d):=by
 rw[Sort.insOuter,if_pos h]
theorem insOuter_end (a b i:Nat) (d:Array Int) (h:¬i<b):Sort.insOuter lt a b i d=d:=by
 rw[Sort.insOuter,if_neg h]
set_option maxHeartbeats 4000000 in
theorem ins_any {w0 w:World}{blk cap n:Nat}{U:Nat→Value}{d:Array Int}(h:Rw w0 blk cap U d w) (hn:d.size=n) (hsz:n<4611686018427387904) (a b:Nat) (hab:a≤b) (hb:b≤n) :
  Calls Tryz.prog 127 #[.slice (some ⟨blk,0,none⟩) n cap,.int .i64 (a:Int),.int .i64 (b:Int)] w fun e w'=>e = .returned (.tuple #[])∧Rw w0 blk cap U (Sort.insertionSort lt d a b) w':=by
 go_enter Tryz.func127,Tryz.ntmps127
 go_wp2
 go_loopg [6] (b-a) (fun g sv wr=>∃(i:Nat) (D:Array Int),sv = .int .i64 (i:Int)∧a<i∧i≤b+1∧b+1-i≤g+1∧Aside (D.size=n)∧Rw w0 blk cap U D wr∧Aside (Sort.insOuter lt a b i D=Sort.insOuter lt a b (a+1) d))
 case atStart=>exact⟨a+1,d,by go_num,by omega,by omega,by omega,hn,h,rfl⟩
 case round =>
  obtain⟨i,D,rfl,hai,hib,hg,hs,hR,hE⟩:=hrel;obtain⟨go,hgo⟩:∃go,go=gk:=⟨_,rfl⟩
  have hgoA:Aside (b+1-i≤go+1):=(by omega:b+1-i≤go+1)
  by_cases hlt:i<b
  ·have hltz:(i:Int)<(b:Int):=by omega
   go_wp2
   go_loopg [7] i (fun g sv wr=>∃(D':Array Int),sv = .int .i64 (g:Int)∧a≤g∧g≤i∧Aside (D'.size=n)∧Rw w0 blk cap U D' wr∧Aside (Sort.insInner lt a g D'=Sort.insInner lt a i D))
   case atStart=>exact⟨D,rfl,by omega,Nat.le_refl _,hs,hR,rfl⟩
   case round =>
    clear hR;obtain⟨D',rfl,haj,hji,hs',hR,hI⟩:=hrel;have fin:Aside ((gk≤a∨lt D'[gk]! D'[gk-1]! = false)→Sort.insOuter lt a b (i+1) D'=Sort.insOuter lt a b (a+1) d):=fun e=>by
     rw[← hE.out,insOuter_go a b i D hlt,← hI.out,insInner_end a gk D' e]
    by_cases hja:a<gk
    ·obtain⟨j,hj⟩:∃j:Nat,gk=j+1:=⟨gk-1,by omega⟩
     have hz:(gk:Int)-1=(j:Int):=by omega
     have hja':(a:Int)<(gk:Int):=by omega
     have hd:decide ((gk:Int) > (a:Int))=true:=decide_eq_true (by omega);have b1:(gk:Int)<(n:Int):=by omega
     have b2:(j:Int)<(n:Int):=by omega
     have c1:=hR.cell (i:=gk) (by have:=hs'.out;omega);have c2:=hR.cell (i:=j) (by have:=hs'.out;omega);have jA:Aside (gk=j+1):=hj;obtain⟨x,hx⟩:∃x,x=D'[gk]!:=⟨_,rfl⟩
     obtain⟨y,hy⟩:∃y,y=D'[j]!:=⟨_,rfl⟩
     have hxA:Aside (x=D'[gk]!):=hx;have hyA:Aside (y=D'[j]!):=hy;rw[← hx]at c1;rw[← hy]at c2;have K:=fun w=>less_any x y w
     cases hl:lt x y with
     | true =>
      rw[show Sort.ltInt x y=true from hl]at K;have hlA:Aside (lt x y=true):=hl;clear hx hy hj hl
      go_wp2_with fail
      go_quiet (first | (go_at_call 133;exact Calls.quiet_of_same (K _)))
      have hR1:=hR.drewN nq;generalize wr.drewN nq=w1 at hR1 ⊢;have c1:=hR1.cell (i:=gk) (by have:=hs'.out;omega);have c2:=hR1.cell (i:=j) (by have:=hs'.out;omega);rw[← hxA.out]at c1;rw[← hyA.out]at c2;have f1:=hR1.free gk;have f2:=hR1.free j;obtain⟨u,c3⟩:=hR1.cell2 gk j (by have:=hs'.out;omega) (by have:=hs'.out;omega) y;have hR2:=(hR1.swp gk j (by have:=hs'.out;omega) (by have:=hs'.out;omega)).drew;rw[← hxA.out,← hyA.out]at hR2
      go_wp2_with fail
      go_region
      generalize ((w1.setCell ⟨blk,gk,none⟩ (.int .u32 y)).setCell ⟨blk,j,none⟩ (.int .u32 x)).drew=w2 at hR2 ⊢
      go_wp2
      go_roundg j
      case measure=>have:=jA.out;omega
      case rel =>
       have e:=jA.out;subst e;exact⟨_,rfl,by omega,by omega,by rw[size_swp];exact hs'.out,hR2,by rw[← hI.out,insInner_go a j D' hja (by rw[← hxA.out,← hyA.out];exact hlA.out)];exact rfl⟩
     | false =>
      rw[show Sort.ltInt x y=false from hl]at K;have hlA:Aside (lt x y=false):=hl;clear hx hy hj hl
      go_wp2_with fail
      go_quiet (first | (go_at_call 133;exact Calls.quiet_of_same (K _)))
      have hR1:=hR.drewN nq;generalize wr.drewN nq=w1 at hR1 ⊢
      go_wp2
      go_roundg (b-(i+1))
      case measure=>omega
      case rel =>
       have e:=jA.out;exact⟨i+1,D',by go_num,by omega,by omega,by omega,hs',hR1,fin.out (.inr (by rw[show gk-1=j by omega,← hxA.out,← hyA.out];exact hlA.out))⟩
    ·have hd:decide ((gk:Int) > (a:Int))=false:=decide_eq_false (by omega);have hja':¬(a:Int)<(gk:Int):=by omega
     go_wp2_with fail
     go_region
     have hR1:=hR.drew;generalize wr.drew=w1 at hR1 ⊢
     go_wp2
     go_roundg (b-(i+1))
     case measure=>omega
     case rel=>exact⟨i+1,D',by go_num,by omega,by omega,by omega,hs',hR1,fin.out (.inl (by omega))⟩
  ·have hltz:¬(i:Int)<(b:Int):=by omega
   go_wp2
   go_end0
   refine⟨rfl,?_⟩;rw[Sort.insertionSort,← hE.out,insOuter_end a b i D hlt];exact hR
end Go.Proofs.YtnnmdkaoiofabaaGreat.Rs
namespace Go.Proofs.YtnnmdkaoiofabaaGreat.Rs
open Go Go.RowKit
abbrev Pm (a b:Nat) (d d':Array Int):Prop:=Sort.PermIn a b d d'
theorem Pm.refl (a b:Nat) (d:Array Int):Pm a b d d:=Sort.permIn_refl d a b
theorem Pm.trans {a b:Nat}{d d' d'':Array Int}(h:Pm a b d d') (k:Pm a b d' d''):Pm a b d d'':=Sort.permIn_trans d d' d'' a b h k
theorem Pm.swp {a b:Nat}{d d':Array Int}(h:Pm a b d d'){i j:Nat}(h1:a≤i) (h2:i<b) (h3:a≤j) (h4:j<b) (h5:b≤d'.size):Pm a b d (Sort.swp d' i j):=h.trans (Sort.swp_permIn d' a b i j h1 h2 h3 h4 h5)
theorem Pm.size {a b:Nat}{d d':Array Int}(h:Pm a b d d'):d'.size=d.size:=h.1
set_option maxHeartbeats 4000000 in
theorem rev_any {w0 w:World}{blk cap n:Nat}{U:Nat→Value}{d:Array Int}(h:Rw w0 blk cap U d w) (hn:d.size=n) (hsz:n<4611686018427387904) (a b:Nat) (hab:a<b) (hb:b≤n) :
  Calls Tryz.prog 131 #[.slice (some ⟨blk,0,none⟩) n cap,.int .i64 (a:Int),.int .i64 (b:Int)] w fun e w'=>e = .returned (.tuple #[])∧∃d',Pm a b d d'∧Rw w0 blk cap U d' w':=by
 go_enter Tryz.func131,Tryz.ntmps131
 go_wp2
 go_loopg [6,7] b (fun g s1 s2 wr=>∃(i j:Nat) (D:Array Int),s1 = .int .i64 (i:Int)∧s2 = .int .i64 (j:Int)∧a≤i∧j<b∧j-i≤g∧Aside (D.size=n)∧Aside (Pm a b d D)∧Rw w0 blk cap U D wr)
 case atStart=>exact⟨a,b-1,d,rfl,by go_num,Nat.le_refl _,by omega,by omega,hn,Pm.refl _ _ _,h⟩
 case round =>
  obtain⟨i,j,D,rfl,rfl,hai,hjb,hg,hs,hP,hR⟩:=hrel;by_cases hij:i<j
  ·have hijz:(i:Int)<(j:Int):=by omega
   have bI:(i:Int)<(n:Int):=by omega
   have bJ:(j:Int)<(n:Int):=by omega
   have cI:=hR.cell (i:=i) (by have:=hs.out;omega);have cJ:=hR.cell (i:=j) (by have:=hs.out;omega);have fI:=hR.free i;have fJ:=hR.free j;have hRs:=(hR.swp i j (by have:=hs.out;omega) (by have:=hs.out;omega)).drew;obtain⟨u,cU⟩:=hR.cell2 i j (by have:=hs.out;omega) (by have:=hs.out;omega) D[j]!;generalize D[i]! = x at cI hRs;generalize D[j]! = y at cJ cU hRs
   go_wp2_with fail
   go_region
   generalize ((wr.setCell ⟨blk,i,none⟩ (.int .u32 y)).setCell ⟨blk,j,none⟩ (.int .u32 x)).drew=wrs at hRs ⊢;clear cI cJ fI fJ cU hR
   go_wp2
   go_roundg (j-1-(i+1))
   case measure=>omega
   case rel=>exact⟨i+1,j-1,_,by go_num,by go_num,by omega,by omega,Nat.le_refl _,by rw[size_swp];exact hs.out,hP.out.swp (by omega) (by omega) (by omega) (by omega) (by have:=hs.out;omega),hRs⟩
  ·have hijz:¬(i:Int)<(j:Int):=by omega
   go_wp2
   go_end0
   exact⟨rfl,D,hP.out,hR⟩
structure Ct (w0:World) (blk cap:Nat) (U:Nat→Value) (d:Array Int) (c:Nat) (w:World):Prop where
 row:Rw w0 blk cap U d w
 cell:∃s:Int,w.cell? ⟨c,0,none⟩=some (.int .i64 s)
 free:w.frozen? ⟨c,0,none⟩=false
 new:w0.heap.size≤c
section
variable {w0 w:World}{blk cap n c:Nat}{U:Nat→Value}{d:Array Int}
theorem Ct.drewN (h:Ct w0 blk cap U d c w) (q:Nat):Ct w0 blk cap U d c (w.drewN q):=⟨h.row.drewN q,h.cell,h.free,h.new⟩
theorem Ct.bump (h:Ct w0 blk cap U d c w) (t:Int):Ct w0 blk cap U d c (w.setCell ⟨c,0,none⟩ (.int .i64 t)):=
 ⟨h.row.setNew h.new 0 _,⟨t,by obtain⟨s,hs⟩:=h.cell;exact World.cell?_setCell_same' _ _ _ (by rw[hs];rfl)⟩,by rw[World.frozen?_setCell];exact h.free,h.new⟩
set_option maxHeartbeats 4000000 in
theorem order2_any (h:Ct w0 blk cap U d c w) (hn:d.size=n) (_hsz:n<4611686018427387904) (a b:Nat) (ha:a<n) (hb:b<n) :
  Calls Tryz.prog 173 #[.slice (some ⟨blk,0,none⟩) n cap,.int .i64 (a:Int),.int .i64 (b:Int),.pointer (some ⟨c,0,none⟩)] w fun e w'=>∃(x y:Nat),e = .returned (.tuple #[.int .i64 (x:Int),.int .i64 (y:Int)])∧((x=a∧y=b)∨(x=b∧y=a))∧Ct w0 blk cap U d c w':=by
 have hs:Aside (d.size=n):=hn;have hR:=h.row;have hA:Aside (Ct w0 blk cap U d c w):=h;clear h hn;go_enter Tryz.func173,Tryz.ntmps173
 have bI:(b:Int)<(n:Int):=by omega
 have bJ:(a:Int)<(n:Int):=by omega
 have cI:=hR.cell (i:=b) (by have:=hs.out;omega);have cJ:=hR.cell (i:=a) (by have:=hs.out;omega);obtain⟨x,hx⟩:∃x,x=d[b]!:=⟨_,rfl⟩
 obtain⟨y,hy⟩:∃y,y=d[a]!:=⟨_,rfl⟩
 have hxA:Aside (x=d[b]!):=hx;have hyA:Aside (y=d[a]!):=hy;rw[← hx]at cI;rw[← hy]at cJ;have K:=fun w=>less_any x y w
 clear hx hy;cases hl:lt x y with
 | true =>
  rw[show Sort.ltInt x y=true from hl]at K;have hlA:Aside (lt d[b]! d[a]! = true):=by rw[← hxA.out,← hyA.out];exact hl
  clear hl hxA hyA
  go_wp2_with fail
  go_quiet (first | (go_at_call 133;exact Calls.quiet_of_same (K _)))
  have hC:=hA.out.drewN nq;have hf:=hC.free;obtain⟨s,hc⟩:=hC.cell;generalize w.drewN nq=w1 at hC hf hc ⊢
  go_wp2
  go_ret2
  exact⟨b,a,rfl,.inr ⟨rfl,rfl⟩,hC.bump _⟩
 | false =>
  rw[show Sort.ltInt x y=false from hl]at K;have hlA:Aside (lt d[b]! d[a]! = false):=by rw[← hxA.out,← hyA.out];exact hl
  clear hl hxA hyA
  go_wp2_with fail
  go_quiet (first | (go_at_call 133;exact Calls.quiet_of_same (K _)))
  have hC:=hA.out.drewN nq;generalize w.drewN nq=w1 at hC ⊢
  go_wp2
  go_ret2
  exact⟨a,b,rfl,.inl ⟨rfl,rfl⟩,hC⟩
set_option maxHeartbeats 4000000 in
theorem median_any (h:Ct w0 blk cap U d c w) (hn:d.size=n) (hsz:n<4611686018427387904) (i j k:Nat) (hi:i<n) (hj:j<n) (hk:k<n) :
  Calls Tryz.prog 158 #[.slice (some ⟨blk,0,none⟩) n cap,.int .i64 (i:Int),.int .i64 (j:Int),.int .i64 (k:Int),.pointer (some ⟨c,0,none⟩)] w fun e w'=>∃(x:Nat),e = .returned (.int .i64 (x:Int))∧(x=i∨x=j∨x=k)∧Ct w0 blk cap U d c w':=by
 have K1:=order2_any h hn hsz i j hi hj;go_enter Tryz.func158,Tryz.ntmps158
 go_wp2_with (first
  | (go_at_call 173;refine K1.mono ?_;clear K1;rintro e w1 ⟨i1,j1,rfl,m1,h1⟩;have b1:j1<n:=(by omega);have b2:i1<n:=(by omega);have K2:=order2_any h1 hn hsz j1 k b1 hk)
  | (go_at_call 173;refine K2.mono ?_;clear K2;rintro e w2 ⟨j2,k2,rfl,m2,h2⟩;have b3:j2<n:=(by omega);have K3:=order2_any h2 hn hsz i1 j2 b2 b3)
  | (go_at_call 173;refine K3.mono ?_;clear K3;rintro e w3 ⟨i3,j3,rfl,m3,h3⟩))
 go_ret
 exact⟨j3,rfl,by omega,h3⟩
set_option maxHeartbeats 4000000 in
theorem medianAdj_any (h:Ct w0 blk cap U d c w) (hn:d.size=n) (hsz:n<4611686018427387904) (i:Nat) (h0:0<i) (hi:i+1<n) :
  Calls Tryz.prog 157 #[.slice (some ⟨blk,0,none⟩) n cap,.int .i64 (i:Int),.pointer (some ⟨c,0,none⟩)] w fun e w'=>∃(x:Nat),e = .returned (.int .i64 (x:Int))∧(x+1=i∨x=i∨x=i+1)∧Ct w0 blk cap U d c w':=by
 obtain⟨p,hp⟩:∃p:Nat,(i:Int)-1=(p:Int):=⟨i-1,by omega⟩
 obtain⟨q,hq⟩:∃q:Nat,(i:Int)+1=(q:Int):=⟨i+1,by omega⟩
 have hpA:Aside (p+1=i):=(by omega:p+1=i)
 have hqA:Aside (q=i+1):=(by omega:q=i+1)
 have K1:=median_any h hn hsz p i q (by omega) (by omega) (by omega);go_enter Tryz.func157,Tryz.ntmps157
 go_wp2_with (go_at_call 158;refine K1.mono ?_;clear K1;rintro e w1 ⟨x,rfl,m1,h1⟩)
 go_ret
 have:=hpA.out;have:=hqA.out;exact⟨x,rfl,by omega,h1⟩
end
set_option maxHeartbeats 8000000 in
theorem pivot_any {w0 w:World}{blk cap n:Nat}{U:Nat→Value}{d:Array Int}(h:Rw w0 blk cap U d w) (hn:d.size=n) (hsz:n<4611686018427387904) (a b:Nat) (hab:a+12<b) (hb:b≤n) :
  Calls Tryz.prog 130 #[.slice (some ⟨blk,0,none⟩) n cap,.int .i64 (a:Int),.int .i64 (b:Int)] w fun e w'=>∃(p:Nat) (t:Int),e = .returned (.tuple #[.int .i64 (p:Int),.int .i64 t])∧a≤p∧p<b∧(t=0∨t=1∨t=2)∧Rw w0 blk cap U d w':=by
 obtain⟨l,hl⟩:∃l:Nat,(b:Int)-(a:Int)=(l:Int):=⟨b-a,by omega⟩
 obtain⟨q,hq⟩:∃q:Nat,(l:Int) / 4=(q:Int):=⟨l / 4,by omega⟩
 have hq':(l:Int).tdiv 4=(q:Int):=by rw[Int.tdiv_eq_ediv_of_nonneg (by omega)];exact hq
 obtain⟨i,hi⟩:∃i:Nat,(a:Int)+(q:Int)=(i:Int):=⟨a+q,by omega⟩
 obtain⟨j,hj⟩:∃j:Nat,(a:Int)+(q:Int)*2=(j:Int):=⟨a+q*2,by omega⟩
 obtain⟨k,hk⟩:∃k:Nat,(a:Int)+(q:Int)*3=(k:Int):=⟨a+q*3,by omega⟩
 have f1:Aside (0<i∧a<i∧i+1<j∧j+1<k∧k+1<b):=(by omega:0<i∧a<i∧i+1<j∧j+1<k∧k+1<b)
 have g1:(8:Int)≤(l:Int):=by omega
 have f2:Aside (a+l=b):=(by omega:a+l=b)
 have hC:Ct w0 blk cap U d w.heap.size (w.alloc (.cells #[.int .i64 0] 3)):=⟨h.alloc _,⟨0,by simp⟩,by simp,h.size_le⟩
 have hw:Aside (w0.heap.size≤w.heap.size):=h.size_le;have tail:Aside (∀(j':Nat) (w':World),a≤j'→j'<b→Ct w0 blk cap U d w.heap.size w'→a≤j'∧j'<b∧Rw w0 blk cap U d w'):=fun j' w' h1 h2 h3=>⟨h1,h2,h3.row⟩
 by_cases hc:(50:Int)≤(l:Int)
 ·have K1:=medianAdj_any hC hn hsz i f1.out.1 (by have:=f1.out;omega);go_enter Tryz.func130,Tryz.ntmps130
  go_wp2_with (first
   | (go_at_call 157;refine K1.mono ?_;clear K1;rintro e w1 ⟨x1,rfl,m1,h1⟩;have K2:=medianAdj_any h1 hn hsz j (by have:=f1.out;omega) (by have:=f1.out;omega))
   | (go_at_call 157;refine K2.mono ?_;clear K2;rintro e w2 ⟨x2,rfl,m2,h2⟩;have K3:=medianAdj_any h2 hn hsz k (by have:=f1.out;omega) (by have:=f1.out;omega))
   | (go_at_call 157;refine K3.mono ?_;clear K3;rintro e w3 ⟨x3,rfl,m3,h3⟩;have K4:=median_any h3 hn hsz x1 x2 x3 (by have:=f1.out;omega) (by have:=f1.out;omega) (by have:=f1.out;omega))
   | (go_at_call 158;refine K4.mono ?_;clear K4;rintro e w4 ⟨x4,rfl,m4,h4⟩;obtain⟨s,hs⟩:=h4.cell))
  all_goals go_ret2
  all_goals (refine⟨x4,_,rfl,?_,?_,?_,h4.row⟩)
  all_goals first
   | (have:=f1.out;omega)
   | simp
 ·have K4:=median_any hC hn hsz i j k (by have:=f1.out;omega) (by have:=f1.out;omega) (by have:=f1.out;omega);go_enter Tryz.func130,Tryz.ntmps130
  go_wp2_with (go_at_call 158;refine K4.mono ?_;clear K4;rintro e w4 ⟨x4,rfl,m4,h4⟩;obtain⟨s,hs⟩:=h4.cell)
  all_goals go_ret2
  all_goals (refine⟨x4,_,rfl,?_,?_,?_,h4.row⟩)
  all_goals first
   | (have:=f1.out;omega)
   | simp
end Go.Proofs.YtnnmdkaoiofabaaGreat.Rs
