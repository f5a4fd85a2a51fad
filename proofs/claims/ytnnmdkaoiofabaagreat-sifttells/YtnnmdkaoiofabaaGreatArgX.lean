/-
  What an argument that is a slice of integers gives the walks: empty, or its numbers cell by cell. An argument that is a table.
-/
import Derived.Test.YtnnmdkaoiofabaaGreatRows
import Derived.Test.YtnnmdkaoiofabaaGreatBaseG
import Derived.ProofKit
import Derived.OpenShut
import Derived.Lib.LaidTab
import Derived.WideKeyArr2
namespace Go.Proofs.YtnnmdkaoiofabaaGreat
open Go.ChangeShapes Go.WideShapes Go.ChangeAt Go.RowKit
theorem try_own : ownKnob Tryz.prog.godebug=none:=by kernel_rfl
theorem try_laid : laidOutB Tryz.prog=true:=by kernel_rfl
theorem wf_u64 {z:Int}(h:(Lit.int .u64 z).wf=true):0≤z∧z≤18446744073709551615:=by
 have h1:IntKind.u64.min=0:=rfl;have h2:IntKind.u64.max=18446744073709551615:=rfl;simp only[Lit.wf,Bool.and_eq_true,decide_eq_true_eq]at h;omega
set_option maxRecDepth 100000 in
theorem view_ints {H:Type}{enc:TypeId×Value→H}{W:World}{base:Nat}{r:Reach}{t e:TypeId}{k:IntKind}{v:Value}{d:DataW H}{p:List MemPlace}
  (ht:Tryz.prog.underlying t=some (.slice e)) (he:Tryz.prog.underlying e=some (.int k)) (hc:Tryz.prog.cellsOf e=1)
  (hv:Value.okWide Tryz.prog W r base t v) (h:DataW.Trod enc Tryz.prog W 0 (fun _=>true) true t v d p) :
  ∃(ad:Option Addr) (len cap:Nat),v = .slice ad len cap∧(len=0∨∃(b off:Nat) (Z:Nat→Int),ad=some ⟨b,off,none⟩∧b<W.heap.size∧∀i,i<len→W.cell? ⟨b,off+i,none⟩=some (.int k (Z i))∧(Lit.int k (Z i)).wf=true):=by
 obtain⟨ad,len,cap,rfl⟩:=okWide_slice ht hv;refine⟨ad,len,cap,rfl,?_⟩;obtain⟨fuel,hf⟩:=h;rcases open_ints ht he hc hf with ⟨hcs,_⟩|⟨a,len',cap',zs,hcs,_,hl,_,hz,_,hcell,hwz⟩
 ·simp[Value.cells]at hcs;exact Or.inl hcs.2.1
 ·simp[Value.cells]at hcs;obtain⟨rfl,rfl,rfl⟩:=hcs;rw[if_pos rfl]at hz;by_cases h0:len=0
  ·exact Or.inl h0
  ·right;have c0:=hcell 0 (by omega);obtain⟨e',n',hs,_,hsp⟩:=World.shape?_of_cell? c0;obtain⟨b,off,sp⟩:=a;have hsp':sp=none:=hsp;subst hsp';have hadd:∀i,(⟨b,off,none⟩:Addr).add i=⟨b,off+i,none⟩:=fun i=>by
    by_cases hi:i=0
    ·subst hi;rfl
    ·simp[Addr.add,hi]
   refine⟨b,off,fun i=>zs.getD i 0,rfl,?_,fun i hi=>⟨by rw[← hadd];exact hcell i (by omega),?_⟩⟩
   ·rw[hadd]at c0;cases hh:W.heap[b]? with
    | none=>simp[World.cell?,hh]at c0
    | some o=>exact(Array.getElem?_eq_some_iff.1 hh).1
   ·have hi':i<zs.length:=by omega
    have:zs.getD i 0=zs[i]:=by simp[List.getD,List.getElem?_eq_getElem hi']
    show (Lit.int k (zs.getD i 0)).wf=true;rw[this];exact hwz _ (List.getElem_mem hi')
end Go.Proofs.YtnnmdkaoiofabaaGreat
namespace Go.Proofs.YtnnmdkaoiofabaaGreat
open Go.ChangeShapes Go.WideShapes Go.ChangeAt Go.RowKit Go
open Rf (tab word ofWords word_of)
theorem cellsT : Tryz.prog.cellsOf 24=4:=by kernel_rfl
theorem cellsW : Tryz.prog.cellsOf 22=1:=by kernel_rfl
end Go.Proofs.YtnnmdkaoiofabaaGreat
