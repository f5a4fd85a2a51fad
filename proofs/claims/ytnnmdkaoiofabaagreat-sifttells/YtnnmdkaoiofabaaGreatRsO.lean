/-
  The library's deleting by a test and its compacting, over a row of handles. The library's compacting of a sorted row of handles: each once. Slices of handles that are appended to; stacks of them, a slice each. What the library's functions do to a slice of handles, nil or not: sorted, filtered, compacted, gathered from a map's keys.
-/
import Derived.Test.YtnnmdkaoiofabaaGreatRsA
import Derived.Lib.SliceRun
import Derived.Deep.CutRange
import Derived.Deep.AppendLies
import Derived.Deep.Upon
import Derived.Deep.RegionLaw
import Derived.Test.YtnnmdkaoiofabaaGreatRsD
import Derived.Test.YtnnmdkaoiofabaaGreatRsK
namespace Go.Proofs.YtnnmdkaoiofabaaGreat.Rs
open Go Go.RowKit
def cst (x:Int):Bool:=decide (x=0∨x=1)
def nc (x:Int):Bool:=!cst x
end Go.Proofs.YtnnmdkaoiofabaaGreat.Rs
namespace Go.Proofs.YtnnmdkaoiofabaaGreat.Rs
open Go Go.RowKit
def Same (l l':List Int):Prop:=∀x,x∈l↔x∈l'
end Go.Proofs.YtnnmdkaoiofabaaGreat.Rs
namespace Go.Proofs.YtnnmdkaoiofabaaGreat.Rs
open Go Go.RowKit
abbrev hV (x:Int):Value:=.int .u32 x
def At (ad:Option Addr):Nat→Prop:=fun k=>∃a,ad=some a∧a.block=k
def OwnH (w:World) (ad:Option Addr) (cap:Nat) (xs:List Int):Prop:=w.ownsRow 0 36 1 (.slice ad xs.length cap) xs.length (xs.map hV)
section
variable {w w' w0:World}{cap:Nat}{ad:Option Addr}{xs:List Int}
theorem OwnH.nil (w:World):OwnH w none 0 []:=World.ownsRow_nil w 0 36 1
theorem OwnH.max (h:OwnH w ad cap xs):cap≤maxLen∧xs.length≤cap:=by
 rcases h.2 with ⟨h2,h3⟩|⟨g,cap',cur,hv,hb,hh,r1,r2,r3⟩
 ·injection h2 with e1 e2 e3
  subst e3;exact⟨Nat.zero_le _,by omega⟩
 ·injection hv with e1 e2 e3
  subst e3;exact⟨r2,r1⟩
theorem OwnH.parts (h:OwnH w ad cap xs):(ad=none∧cap=0∧xs=[])∨∃g U,ad=some ⟨g,0,none⟩∧Rw w g cap U xs.toArray w:=by
 rcases h.2 with ⟨h2,h3⟩|⟨g,cap',cur,hv,hb,hh,r1,r2,r3,r4⟩
 ·injection h2 with e1 e2 e3
  exact .inl ⟨e1,e3,List.length_eq_zero_iff.1 h3⟩
 ·injection hv with e1 e2 e3
  subst e3;refine .inr ⟨g,fun i=>(cur[i]?).getD default,e1,⟨⟨cur,hh,by omega,fun i hi=>?_⟩,by simpa using r1,Went.refl _ _,(Array.getElem?_eq_some_iff.1 hh).1⟩⟩;unfold rowf;split
  ·rename_i hix;have hix:i<xs.length:=by simpa using hix
   have:=congrArg (·[i]?) r4;simp only[List.getElem?_map,List.getElem?_take,Nat.mul_one,if_pos hix,List.getElem?_eq_getElem hix,Option.map_some,Array.getElem?_toList]at this;rw[this,getElem!_pos _ i (by simpa using hix)];simp
  ·have hic:i<cur.size:=by omega
   simp[Array.getElem?_eq_getElem hic]
theorem OwnH.of_rw {g:Nat}{U:Nat→Value}{d:Array Int}(h:Rw w0 g cap U d w) (hc:cap≤maxLen):OwnH w (some ⟨g,0,none⟩) cap d.toList:=by
 obtain⟨c,hb,hn,hf⟩:=h.row;have hle:=h.le;refine⟨by simp,.inr ⟨g,cap,c,by simp,Nat.zero_le _,hb,by simpa using hle,hc,by omega,?_⟩⟩;apply List.ext_getElem?;intro i;simp only[Array.length_toList,Nat.mul_one,List.getElem?_take,List.getElem?_map,Array.getElem?_toList];by_cases hi:i<d.size
 ·rw[if_pos hi,hf i (by omega),rowf,if_pos hi,Array.getElem?_eq_getElem hi,getElem!_pos d i hi];rfl
 ·rw[if_neg hi,Array.getElem?_eq_none (by omega)];rfl
end
def up {α:Type}(f:Nat→α) (i:Nat) (v:α):Nat→α:=fun k=>if k=i then v else f k
def Fs (S n:Nat) (A:Nat→Option Addr):Nat→Prop:=fun b=>b=S∨∃k,k<n∧At (A k) b
end Go.Proofs.YtnnmdkaoiofabaaGreat.Rs
namespace Go.Proofs.YtnnmdkaoiofabaaGreat.Rs
open Go Go.RowKit
theorem perm_of_pm {n:Nat}{d R:Array Int}(h:Pm 0 n d R) (hn:d.size=n):R.toList.Perm d.toList:=by
 have h1:=h.size;have h2:=h.2.2;rw[show R.extract 0 n=R by rw[← hn,← h1];simp,show d.extract 0 n=d by rw[← hn];simp]at h2;exact h2
theorem Went.at_blk {g:Nat}{w w':World}(h:Went (fun k=>k=g) w w'):Went (At (some ⟨g,0,none⟩)) w w':=h.wider fun _ e=>⟨_,rfl,e.symm⟩
section
variable {w:World}{ad:Option Addr}{cap:Nat}{xs:List Int}
theorem sortH (h:OwnH w ad cap xs) (hn:xs.length<65536) :
  Calls Tryz.prog 96 #[.slice ad xs.length cap] w fun e w'=>e = .returned (.tuple #[])∧∃ys,ys.Perm xs∧(∀i,i+1<ys.length→ys[i]!≤ys[i+1]!)∧OwnH w' ad cap ys∧Went (At ad) w w':=by
 rcases h.parts with ⟨rfl,rfl,rfl⟩|⟨g,U,rfl,hR⟩
 ·refine(sort_none none 0 w).mono ?_;rintro e w' ⟨rfl,rfl⟩;exact⟨rfl,[],.refl _,by simp,OwnH.nil _,Went.refl _ _⟩
 ·refine(sort_any hR (by simp) hn).mono ?_;rintro e w' ⟨rfl,R,hS,hR'⟩;have hp:=perm_of_pm hS.1 (by simp);refine⟨rfl,R.toList,by simpa using hp,fun i hi=>?_,OwnH.of_rw hR' h.max.1,hR'.went.at_blk⟩;have hsz:R.size=xs.length:=by rw[hS.1.size];simp
  have hi':i+1<R.size:=by simpa using hi
  have:=hS.2 i (i+1) (by omega) (by omega) (by omega);have h2:¬R[i+1]! < R[i]!:=by simpa[Sort.ltInt]using this
  rw[getElem!_pos R.toList i (by simp;omega),getElem!_pos R.toList (i+1) (by simpa using hi')];rw[getElem!_pos R i (by omega),getElem!_pos R (i+1) hi']at h2;simpa using h2
end
theorem own_of_row {w:World}{B:Nat}{v:Value}{xs:List Int}(h:w.ownsRow B 36 1 v xs.length (xs.map hV)):∃ad cap,v = .slice ad xs.length cap∧OwnH w ad cap xs∧∀k,At ad k→B≤k:=by
 rcases h with ⟨h1,⟨rfl,h2⟩|⟨g,cap,cur,rfl,hb,r⟩⟩
 ·have:xs=[]:=List.length_eq_zero_iff.1 h2;subst this;exact⟨none,0,rfl,OwnH.nil _,fun k hk=>by obtain⟨a,ha,_⟩:=hk;cases ha⟩
 ·exact⟨_,cap,rfl,⟨h1,.inr ⟨g,cap,cur,rfl,Nat.zero_le _,r⟩⟩,fun k hk=>by obtain⟨a,ha,rfl⟩:=hk;cases ha;exact hb⟩
theorem up_chain {l:List Int}(h:∀i,i+1<l.length→l[i]!≤l[i+1]!):∀k i,i+k<l.length→l[i]!≤l[i+k]!
 | 0,i,_=>Int.le_refl _
 | k+1,i,hi=>Int.le_trans (up_chain h k i (by omega)) (h (i+k) (by omega))
theorem strict_of {l:List Int}(hn:l.Nodup) (h:∀i,i+1<l.length→l[i]!≤l[i+1]!):l.Pairwise (· < ·):=by
 rw[List.pairwise_iff_getElem];intro i j hi hj hij;have h1:=up_chain h (j-i) i (by omega);rw[show i+(j-i)=j by omega,getElem!_pos l i hi,getElem!_pos l j hj]at h1;have h2:l[i]≠l[j]:=fun e=>by
  have:=(List.getElem?_inj hi hn).1 (show l[i]? = l[j]? by rw[List.getElem?_eq_getElem hi,List.getElem?_eq_getElem hj,e]);omega
 omega
end Go.Proofs.YtnnmdkaoiofabaaGreat.Rs
