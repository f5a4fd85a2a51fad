/-
  What the nodes of a function just made hang on: which levels have none. The statements' own first look at package swap. Two levels exchanged twice, without a program.
-/
import Derived.Test.YtnnmdkaoiofabaaGreatSwSP
import Derived.Test.YtnnmdkaoiofabaaGreatLgc
import Derived.Test.YtnnmdkaoiofabaaGreatBaseG
import Derived.Test.YtnnmdkaoiofabaaGreatMkGI
namespace Go.Proofs.YtnnmdkaoiofabaaGreat.Sw
open Go Go.RowKit
open Rf (tab word same IsTab fixAt fixF)
theorem nb (w:World) (o:Obj):Below w.heap.size w (w.alloc o):=(Below.refl _ w).alloc (Nat.le_refl _) _
theorem tab_kept {w w':World}{S b:Nat}{F F':Nat→Prop}{M:Mdl}{G:Nat→Bool}(T:IsTab w b G) (s:St w S F M) (g:Wf F F' w w'):IsTab w' b G:=(g.block b T.lt (s.row T (by decide))).trans T
end Go.Proofs.YtnnmdkaoiofabaaGreat.Sw
namespace Go.Proofs.YtnnmdkaoiofabaaGreat.Sw
open Go Go.RowKit
open Rf (tab word IsTab TabsAt fixAt fixF prt dedup)
def Closed (M:Mdl) (C:Nat→Prop):Prop:=∀h,C h→((M.nd h).2.1<2∨C (M.nd h).2.1)∧((M.nd h).2.2<2∨C (M.nd h).2.2)
theorem Closed.prt {M:Mdl}(o:M.Ok){C:Nat→Prop}(cl:Closed M C){x:Nat}(hx:x∈M.hs) (d:Nat):∀{h:Nat},M.isNode h→M.n-M.lev h≤d→(h<2∨C h)→Prt M (M.tbl h) (M.tbl x)→C x:=by
 induction d with
 | zero =>
  intro h hh hd _ p;refine absurd p (Prt.not_cst o (tbl_dep o hh (Nat.zero_le _)) (tbl_cst ?_));rcases hh with e|e
  ·exact e
  ·have:=o.lv h e;rw[Mdl.lev_in o e]at hd;omega
 | succ d ih =>
  intro h hh hd hc p;rcases hh with e|hm
  ·exact absurd p (Prt.not_cst o (tbl_dep o (.inl e) (Nat.zero_le _)) (tbl_cst e))
  ·have lv:=o.lv h hm;have l1:=o.lo h hm;have l2:=o.hi h hm;have ch:C h:=hc.resolve_left (by have:=(o.range h hm).1;omega);rw[Mdl.lev_in o hm]at hd;have dp:Dep M (M.nd h).1 (M.tbl h):=tbl_dep o (.inr hm) (by rw[Mdl.lev_in o hm];exact Nat.le_refl _);rcases(Prt.step o lv dp).1 p with ⟨e,_⟩|q|q
   ·rw[← (Mdl.one_iff o (.inr hm) (.inr hx)).1 e];exact ch
   ·exact ih l1.1 (by omega) (cl h ch).1 ((Prt.like o (tbl_dep o l1.1 (Nat.zero_le _)) (tbl_lo o hm)).2 q)
   ·exact ih l2.1 (by omega) (cl h ch).2 ((Prt.like o (tbl_dep o l2.1 (Nat.zero_le _)) (tbl_hi o hm)).2 q)
theorem subs_to {v:Nat→Nat}:∀{d k:Nat}{F G G':Nat→Bool},Subs v d k F G→Eqt G G'→Subs v d k F G'
 | 0,_,_,_,_,s,_=>s
 | _+1,_,_,_,_,⟨nc,s⟩,e=>⟨nc,s.imp (fun q=>⟨q.1,subs_to q.2 e⟩) fun q=>⟨q.1,q.2.imp (fun h=>h.trans e) fun h=>h.imp (fun h=>subs_to h e) fun h=>subs_to h e⟩⟩
section
variable {M:Mdl}{L:Nat}{T:Nat→Nat→Bool}{H:Nat→Nat}{ks:List Nat}
theorem node_ncst (o:M.Ok){x:Nat}(hx:x∈M.hs):¬Cst (M.tbl x):=fun c=>by
 have r:=(o.range x hx).1;rcases c with c|c
 ·have:=(Mdl.one_iff o (.inr hx) (.inl (by omega:0<2))).1 (c.trans (tbl_zero M).symm);omega
 ·have:=(Mdl.one_iff o (.inr hx) (.inl (by omega:1<2))).1 (c.trans (tbl_one M).symm);omega
theorem prt_kid (o:M.Ok){k:Nat}(hk:k∈M.hs){X:Nat→Bool}:(Prt M (M.tbl (M.nd k).2.1) X→Prt M (M.tbl k) X)∧(Prt M (M.tbl (M.nd k).2.2) X→Prt M (M.tbl k) X):=by
 have lv:=o.lv k hk;have d:=tbl_dep o (.inr hk) (k:=(M.nd k).1) (by rw[Mdl.lev_in o hk];exact Nat.le_refl _);have st:=Prt.step (G:=X) o lv d;have dl:=fun {c:Nat} (hc:M.isNode c)=>tbl_dep o hc (Nat.zero_le (M.lev c))
 refine⟨fun h=>st.2 (.inr (.inl ?_)),fun h=>st.2 (.inr (.inr ?_))⟩
 ·exact(Prt.like o (dl (o.lo k hk).1) (tbl_lo o hk)).1 h
 ·exact(Prt.like o (dl (o.hi k hk).1) (tbl_hi o hk)).1 h
theorem reach_size (o:M.Ok) (r:Mk.Rch M H L ks) (nd:ks.Nodup) (nh:∀i,i<L→M.isNode (H i)∧Eqt (M.tbl (H i)) (T i)) (d:∀i,i<L→Dep M 0 (T i)):ks.length=sizeN M T L:=by
 have e:sizeN M T L=((prt (fun i=>(M.v i:Int)) M.n (dedup T L) (min M.n 8+1)).1.map encT).length:=by rw[List.length_map];rfl
 have dn:=fun {c:Nat} (hc:M.isNode c)=>tbl_dep o hc (Nat.zero_le (M.lev c))
 have q:∀k∈ks,∀X,Prt M (M.tbl k) X→PrtT M T L X:=r.only (fun y=>∀X,Prt M (M.tbl y) X→PrtT M T L X) (fun i hi X p=>⟨i,hi,(Prt.like o (dn (nh i hi).1) (nh i hi).2).1 p⟩) fun k hk h=>⟨fun X p=>h X ((prt_kid o hk).1 p),fun X p=>h X ((prt_kid o hk).2 p)⟩
 have n1:(ks.map fun k=>encT (M.tbl k)).Nodup:=nodup_map_on _ _ nd fun a ha b hb e=>(Mdl.one_iff o (.inr (r.inn a ha)) (.inr (r.inn b hb))).1 ((encT_iff _ _).1 e)
 have e2:(ks.map fun k=>encT (M.tbl k)).length=ks.length:=List.length_map _;rw[e,← e2];refine Nat.le_antisymm (nodup_le _ _ n1 fun z hz=>?_) (nodup_le _ _ (sizeN_nodup M T L) fun z hz=>?_)
 ·obtain⟨k,hk,rfl⟩:=List.mem_map.1 hz;have hm:=r.inn k hk;exact(sizeN_mem o d _).2 (q k hk _ (Prt.self o (dn (.inr hm)) (node_ncst o hm)))
 ·obtain⟨G,_,rfl⟩:=List.mem_map.1 hz;obtain⟨i,hi,p⟩:=(sizeN_mem o d G).1 hz;have p':=(Prt.like o (dn (nh i hi).1) (nh i hi).2).2 p;obtain⟨x,hx,ex⟩:=Prt.there o _ (nh i hi).1 (Nat.le_refl _) p';have p2:Prt M (M.tbl (H i)) (M.tbl x):=by
   exact subs_to p' ex.symm
  have hk:=Closed.prt o r.closed hx _ (nh i hi).1 (Nat.le_refl _) (r.top i hi) p2;exact List.mem_map.2 ⟨x,hk,(encT_iff _ _).2 ex⟩
end
section
variable {M M1 M2:Mdl}{k:Nat}
theorem swv_twice (v:Nat→Nat) (k:Nat):swv (swv v k) k=v:=funext fun i=>by
 by_cases a:i=k
 ·subst a;rw[swv_k,swv_k1]
 ·by_cases b:i=k+1
  ·subst b;rw[swv_k1,swv_k]
  ·rw[swv_far a b,swv_far a b]
end
end Go.Proofs.YtnnmdkaoiofabaaGreat.Sw
