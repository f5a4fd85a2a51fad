/-
  Two levels of a store exchanged, without a program: what the nodes are then, and that each is what it was. The plan's two maps: nodes by handles, laid and gone through in whatever order; handles by nodes, laid and looked up. The plan under way in memory: its block and its maps; what its small calls do. The plan under way: a free handle; two halves joined.
-/
import Derived.Test.YtnnmdkaoiofabaaGreatBaseD
import Derived.Test.YtnnmdkaoiofabaaGreatBaseS
import Derived.MapKept
import Derived.Laws.IdiomRangeMap
import Derived.Laws.StructEq
import Derived.Deep.QuietTactic
import Derived.BigQuiet
import Derived.Deep.LoopGhost
import Derived.Deep.RegionHeld3
namespace Go.Proofs.YtnnmdkaoiofabaaGreat.Sw
open Go
def swv (v:Nat→Nat) (k:Nat) (i:Nat):Nat:=if i=k then v (k+1) else if i=k+1 then v k else v i
theorem swv_k (v:Nat→Nat) (k:Nat):swv v k k=v (k+1):=if_pos rfl
theorem swv_k1 (v:Nat→Nat) (k:Nat):swv v k (k+1)=v k:=by unfold swv;rw [if_neg (by omega),if_pos rfl]
theorem swv_far {v:Nat→Nat} {k i:Nat} (h:i≠k) (h':i≠k+1):swv v k i=v i:=by unfold swv;rw [if_neg h,if_neg h']
def cof (M:Mdl) (k c:Nat) (b:Bool):Nat:=if M.lev c=k+1 then (if b then (M.nd c).2.2 else (M.nd c).2.1) else c
def Jn (M':Mdl) (k x p q:Nat):Prop:=(p=q∧x=p)∨(p≠q∧x∈M'.hs∧M'.nd x=(k+1,p,q))
structure Plan (M:Mdl) (k:Nat) (M':Mdl):Prop where
 kn:k+1<M.n
 n:M'.n=M.n
 room:M'.room=M.room
 v:M'.v=swv M.v k
 sorted:M'.hs.Pairwise (· < ·)
 range:∀ h∈M'.hs,2≤h∧h<268435456
 len:M'.hs.length≤M'.room
 keep:∀ h∈M.hs,h∈M'.hs
 far:∀ h∈M.hs,(M.nd h).1≠k→(M.nd h).1≠k+1→M'.nd h=M.nd h
 up:∀ h∈M.hs,(M.nd h).1=k+1→M'.nd h=(k,(M.nd h).2)
 down:∀ h∈M.hs,(M.nd h).1=k→M.lev (M.nd h).2.1≠k+1→M.lev (M.nd h).2.2≠k+1→M'.nd h=(k+1,(M.nd h).2)
 both:∀ h∈M.hs,(M.nd h).1=k→(M.lev (M.nd h).2.1=k+1∨M.lev (M.nd h).2.2=k+1)→∃ x y,M'.nd h=(k,x,y)∧Jn M' k x (cof M k (M.nd h).2.1 false) (cof M k (M.nd h).2.2 false)∧Jn M' k y (cof M k (M.nd h).2.1 true) (cof M k (M.nd h).2.2 true)
 new:∀ h∈M'.hs,h ∉ M.hs→(M'.nd h).1=k+1∧(M'.nd h).2.1≠(M'.nd h).2.2∧(M.isNode (M'.nd h).2.1∧k+1<M.lev (M'.nd h).2.1)∧M.isNode (M'.nd h).2.2∧k+1<M.lev (M'.nd h).2.2
 one:∀ h∈M'.hs,∀ g∈M'.hs,(M'.nd h).1=k+1→M'.nd h=M'.nd g→h=g
section
variable {M M':Mdl} {k:Nat}
theorem cof_no {c:Nat} (h:M.lev c≠k+1) (b:Bool):cof M k c b=c:=if_neg h
theorem cof_lo {c:Nat} (h:M.lev c=k+1):cof M k c false=(M.nd c).2.1:=by unfold cof;rw [if_pos h];rfl
theorem cof_hi {c:Nat} (h:M.lev c=k+1):cof M k c true=(M.nd c).2.2:=by unfold cof;rw [if_pos h];rfl
theorem low_in (o:M.Ok) (kn:k+1<M.n) {c:Nat} (hc:M.isNode c) (h:M.lev c=k+1):c∈M.hs∧(M.nd c).1=k+1:=by
 have hm:=Mdl.inner_of_lev hc (by omega)
 exact ⟨hm,by rw [← Mdl.lev_in o hm];exact h⟩
theorem cof_node (o:M.Ok) (kn:k+1<M.n) {c:Nat} (hc:M.isNode c) (hl:k<M.lev c) (b:Bool):M.isNode (cof M k c b)∧k+1<M.lev (cof M k c b):=by
 by_cases h:M.lev c=k+1
 ·obtain ⟨hm,e⟩:=low_in o kn hc h
  cases b with
  | false=>rw [cof_lo h];have:=o.lo c hm;exact ⟨this.1,by omega⟩
  | true=>rw [cof_hi h];have:=o.hi c hm;exact ⟨this.1,by omega⟩
 ·rw [cof_no h];exact ⟨hc,by omega⟩
theorem cof_inj (o:M.Ok) (kn:k+1<M.n) {c d:Nat} (hc:M.isNode c) (hd:M.isNode d) (h0:cof M k c false=cof M k d false) (h1:cof M k c true=cof M k d true):c=d:=by
 by_cases a:M.lev c=k+1 <;> by_cases b:M.lev d=k+1
 ·obtain ⟨m1,e1⟩:=low_in o kn hc a
  obtain ⟨m2,e2⟩:=low_in o kn hd b
  rw [cof_lo a,cof_lo b] at h0
  rw [cof_hi a,cof_hi b] at h1
  exact o.one c m1 d m2 (Prod.ext (by rw [e1,e2]) (Prod.ext h0 h1))
 ·obtain ⟨m1,_⟩:=low_in o kn hc a
  rw [cof_lo a,cof_no b] at h0
  rw [cof_hi a,cof_no b] at h1
  exact absurd (h0.trans h1.symm) (o.ne c m1)
 ·obtain ⟨m2,_⟩:=low_in o kn hd b
  rw [cof_no a,cof_lo b] at h0
  rw [cof_no a,cof_hi b] at h1
  exact absurd (h0.symm.trans h1) (o.ne d m2)
 ·rw [cof_no a,cof_no b] at h0
  exact h0
theorem cof_val (o:M.Ok) (kn:k+1<M.n) {c:Nat} (hc:M.isNode c) (s:Nat→Bool):M.val c s=if s (M.v (k+1))=true then M.val (cof M k c true) s else M.val (cof M k c false) s:=by
 by_cases h:M.lev c=k+1
 ·obtain ⟨hm,e⟩:=low_in o kn hc h
  rw [cof_lo h,cof_hi h,Mdl.val_in o hm,e]
 ·rw [cof_no h,cof_no h]
  split <;> rfl
namespace Plan
theorem lev_far (p:Plan M k M') (_o:M.Ok) {c:Nat} (hc:M.isNode c) (h:M.lev c≠k) (h':M.lev c≠k+1):M'.isNode c∧M'.lev c=M.lev c:=by
 refine ⟨hc.imp id fun e=>p.keep c e,?_⟩
 unfold Mdl.lev at h h' ⊢
 by_cases q:c<2
 ·rw [if_pos q,if_pos q,p.n]
 ·rw [if_neg q] at h h'
  rw [if_neg q,if_neg q,p.far c (hc.resolve_left q) h h']
theorem lev_of (p:Plan M k M') {x:Nat} (hx:x∈M'.hs):M'.lev x=(M'.nd x).1:=by
 unfold Mdl.lev
 rw [if_neg]
 have:=(p.range x hx).1
 omega
theorem lev_up (p:Plan M k M') {c:Nat} (hc:c∈M.hs) (h:(M.nd c).1=k+1):M'.lev c=k:=by
 rw [p.lev_of (p.keep c hc),p.up c hc h]
theorem lev_two (p:Plan M k M') {c:Nat} (hc:c∈M.hs) (h:(M.nd c).1=k):M'.lev c=k∨M'.lev c=k+1:=by
 rw [p.lev_of (p.keep c hc)]
 by_cases q:M.lev (M.nd c).2.1=k+1∨M.lev (M.nd c).2.2=k+1
 ·obtain ⟨x,y,e,_⟩:=p.both c hc h q
  exact .inl (by rw [e])
 ·have:=not_or.1 q
  exact .inr (by rw [p.down c hc h this.1 this.2])
theorem lev_above (p:Plan M k M') (o:M.Ok) {c j:Nat} (hc:M.isNode c) (hj:j<k) (h:j<M.lev c):M'.isNode c∧j<M'.lev c:=by
 by_cases a:M.lev c=k
 ·have hm:=Mdl.inner_of_lev hc (by have:=p.kn;omega)
  refine ⟨.inr (p.keep c hm),?_⟩
  have:=p.lev_two hm (by rw [← Mdl.lev_in o hm];exact a)
  omega
 ·by_cases b:M.lev c=k+1
  ·obtain ⟨hm,e⟩:=low_in o p.kn hc b
   exact ⟨.inr (p.keep c hm),by rw [p.lev_up hm e];exact hj⟩
  ·have:=p.lev_far o hc a b
   exact ⟨this.1,by rw [this.2];exact h⟩
theorem lev_below (p:Plan M k M') (o:M.Ok) {c:Nat} (hc:M.isNode c) (h:k+1<M.lev c):M'.isNode c∧M'.lev c=M.lev c:=p.lev_far o hc (by omega) (by omega)
theorem jn_lev (p:Plan M k M') (o:M.Ok) {x a b:Nat} (j:Jn M' k x a b) (ha:M.isNode a∧k+1<M.lev a):M'.isNode x∧k<M'.lev x:=by
 rcases j with ⟨_,rfl⟩|⟨_,hx,e⟩
 ·have:=p.lev_below o ha.1 ha.2
  exact ⟨this.1,by omega⟩
 ·exact ⟨.inr hx,by rw [p.lev_of hx,e];exact Nat.lt_succ_self k⟩
theorem jn_one (p:Plan M k M') (o:M.Ok) {x a b c d:Nat} (j:Jn M' k x a b) (j':Jn M' k x c d) (ha:M.isNode a∧k+1<M.lev a) (hc:M.isNode c∧k+1<M.lev c):a=c∧b=d:=by
 rcases j with ⟨rfl,rfl⟩|⟨_,hx,e⟩ <;> rcases j' with ⟨rfl,e'⟩|⟨_,hx',e'⟩
 ·exact ⟨e',e'⟩
 ·have:=p.lev_below o ha.1 ha.2
  rw [p.lev_of hx',e'] at this
  have:=this.2
  simp only at this
  have:=ha.2
  omega
 ·subst e'
  have:=p.lev_below o hc.1 hc.2
  rw [p.lev_of hx,e] at this
  have:=this.2
  simp only at this
  have:=hc.2
  omega
 ·rw [e] at e'
  simp only [Prod.mk.injEq,true_and] at e'
  exact e'
theorem both_low (p:Plan M k M') (o:M.Ok) {h x y:Nat} (hm:h∈M.hs) (j0:Jn M' k x (cof M k (M.nd h).2.1 false) (cof M k (M.nd h).2.2 false)) (j1:Jn M' k y (cof M k (M.nd h).2.1 true) (cof M k (M.nd h).2.2 true)):M'.lev x=k+1∨M'.lev y=k+1:=by
 rcases j0 with ⟨e0,_⟩|⟨_,hx,e⟩
 ·rcases j1 with ⟨e1,_⟩|⟨_,hy,e⟩
  ·exact absurd (cof_inj o p.kn (o.lo h hm).1 (o.hi h hm).1 e0 e1) (o.ne h hm)
  ·exact .inr (by rw [p.lev_of hy,e])
 ·exact .inl (by rw [p.lev_of hx,e])
theorem both_ne (p:Plan M k M') (o:M.Ok) {h x y:Nat} (hm:h∈M.hs) (hk:(M.nd h).1=k) (q:M.lev (M.nd h).2.1=k+1∨M.lev (M.nd h).2.2=k+1) (j0:Jn M' k x (cof M k (M.nd h).2.1 false) (cof M k (M.nd h).2.2 false)) (j1:Jn M' k y (cof M k (M.nd h).2.1 true) (cof M k (M.nd h).2.2 true)):x≠y:=fun e=>by
 subst e
 have c:=fun b=>cof_node o p.kn (o.lo h hm).1 (by have:=(o.lo h hm).2;omega:k<M.lev (M.nd h).2.1) b
 obtain ⟨e0,e1⟩:=p.jn_one o j0 j1 (c false) (c true)
 rcases q with q|q
 ·obtain ⟨hm',_⟩:=low_in o p.kn (o.lo h hm).1 q
  rw [cof_lo q,cof_hi q] at e0
  exact o.ne _ hm' e0
 ·obtain ⟨hm',_⟩:=low_in o p.kn (o.hi h hm).1 q
  rw [cof_lo q,cof_hi q] at e1
  exact o.ne _ hm' e1
theorem cases (p:Plan M k M') (o:M.Ok) {h:Nat} (hm:h∈M'.hs):(h∈M.hs∧(M.nd h).1≠k∧(M.nd h).1≠k+1∧M'.nd h=M.nd h)∨(h∈M.hs∧(M.nd h).1=k+1∧M'.nd h=(k,(M.nd h).2))∨((M'.nd h).1=k+1∧(M'.nd h).2.1≠(M'.nd h).2.2∧(M.isNode (M'.nd h).2.1∧k+1<M.lev (M'.nd h).2.1)∧M.isNode (M'.nd h).2.2∧k+1<M.lev (M'.nd h).2.2)∨(h∈M.hs∧(M.nd h).1=k∧(M.lev (M.nd h).2.1=k+1∨M.lev (M.nd h).2.2=k+1)∧∃ x y,M'.nd h=(k,x,y)∧Jn M' k x (cof M k (M.nd h).2.1 false) (cof M k (M.nd h).2.2 false)∧Jn M' k y (cof M k (M.nd h).2.1 true) (cof M k (M.nd h).2.2 true)):=by
 by_cases i:h∈M.hs
 ·by_cases a:(M.nd h).1=k
  ·by_cases q:M.lev (M.nd h).2.1=k+1∨M.lev (M.nd h).2.2=k+1
   ·exact .inr (.inr (.inr ⟨i,a,q,p.both h i a q⟩))
   ·have q':=not_or.1 q
    have e:=p.down h i a q'.1 q'.2
    have l:=o.lo h i
    have r:=o.hi h i
    refine .inr (.inr (.inl ?_))
    rw [e]
    exact ⟨rfl,o.ne h i,⟨l.1,by have:=l.2;have:=q'.1;simp only;omega⟩,r.1,by have:=r.2;have:=q'.2;simp only;omega⟩
  ·by_cases b:(M.nd h).1=k+1
   ·exact .inr (.inl ⟨i,b,p.up h i b⟩)
   ·exact .inl ⟨i,a,b,p.far h i a b⟩
 ·exact .inr (.inr (.inl (p.new h hm i)))
theorem ok (p:Plan M k M') (o:M.Ok):M'.Ok:=by
 have kn:=p.kn
 refine ⟨p.n ▸ o.pos,p.n ▸ o.le8,fun i hi=>?_,fun i j hi hj e=>?_,p.sorted,p.range,p.len,fun h hm=>?_,fun h hm=>?_,fun h hm=>?_,fun h hm=>?_,fun h hm g gm e=>?_⟩
 ·rw [p.n] at hi ⊢
  rw [p.v]
  unfold swv
  split
  ·exact o.vlt _ kn
  ·split
   ·exact o.vlt _ (by omega)
   ·exact o.vlt _ hi
 ·rw [p.n] at hi hj
  rw [p.v] at e
  unfold swv at e
  have inj:=fun a b ha hb=>o.vinj a b ha hb
  split at e
  ·split at e
   ·omega
   ·split at e
    ·have:=inj _ _ kn (by omega) e;omega
    ·have:=inj _ _ kn hj e;omega
  ·split at e
   ·split at e
    ·have:=inj _ _ (by omega) kn e;omega
    ·split at e
     ·omega
     ·have:=inj _ _ (by omega) hj e;omega
   ·split at e
    ·have:=inj _ _ hi kn e;omega
    ·split at e
     ·have:=inj _ _ hi (by omega) e;omega
     ·exact inj _ _ hi hj e
 ·rw [p.n]
  rcases p.cases o hm with ⟨i,_,_,e⟩|⟨i,_,e⟩|⟨e,_⟩|⟨i,_,_,x,y,e,_⟩
  ·rw [e];exact o.lv h i
  ·rw [e];simp only;omega
  ·rw [e];exact kn
  ·rw [e];simp only;omega
 ·rcases p.cases o hm with ⟨i,_,_,e⟩|⟨i,_,e⟩|⟨_,e,_⟩|⟨i,a,q,x,y,e,j0,j1⟩
  ·rw [e];exact o.ne h i
  ·rw [e];exact o.ne h i
  ·exact e
  ·rw [e];exact p.both_ne o i a q j0 j1
 ·rcases p.cases o hm with ⟨i,a,b,e⟩|⟨i,a,e⟩|⟨a,_,l,_⟩|⟨i,a,q,x,y,e,j0,j1⟩
  ·rw [e]
   have l:=o.lo h i
   rcases Nat.lt_or_ge (M.nd h).1 k with c|c
   ·exact p.lev_above o l.1 c l.2
   ·have:=p.lev_below o l.1 (by omega)
    exact ⟨this.1,by rw [this.2];exact l.2⟩
  ·rw [e]
   have l:=o.lo h i
   have:=p.lev_below o l.1 (by omega)
   exact ⟨this.1,by rw [this.2];simp only;omega⟩
  ·have:=p.lev_below o l.1 l.2
   exact ⟨this.1,by rw [this.2];omega⟩
  ·rw [e]
   exact p.jn_lev o j0 (cof_node o kn (o.lo h i).1 (by have:=(o.lo h i).2;omega) false)
 ·rcases p.cases o hm with ⟨i,a,b,e⟩|⟨i,a,e⟩|⟨a,_,_,l⟩|⟨i,a,q,x,y,e,j0,j1⟩
  ·rw [e]
   have l:=o.hi h i
   rcases Nat.lt_or_ge (M.nd h).1 k with c|c
   ·exact p.lev_above o l.1 c l.2
   ·have:=p.lev_below o l.1 (by omega)
    exact ⟨this.1,by rw [this.2];exact l.2⟩
  ·rw [e]
   have l:=o.hi h i
   have:=p.lev_below o l.1 (by omega)
   exact ⟨this.1,by rw [this.2];simp only;omega⟩
  ·have:=p.lev_below o l.1 l.2
   exact ⟨this.1,by rw [this.2];omega⟩
  ·rw [e]
   exact p.jn_lev o j1 (cof_node o kn (o.lo h i).1 (by have:=(o.lo h i).2;omega) true)
 ·by_cases low:(M'.nd h).1=k+1
  ·exact p.one h hm g gm low e
  ·have low':(M'.nd g).1≠k+1:=by rw [← e];exact low
   have deep:∀ {h:Nat},h∈M.hs→(M.nd h).1=k+1→M'.lev (M.nd h).2.1≠k+1∧M'.lev (M.nd h).2.2≠k+1:=fun {h} i a=>by
    have l:=o.lo h i
    have r:=o.hi h i
    rw [(p.lev_below o l.1 (by omega)).2,(p.lev_below o r.1 (by omega)).2]
    omega
   rcases p.cases o hm with ⟨i,a,b,e1⟩|⟨i,a,e1⟩|⟨a,_⟩|⟨i,a,q,x,y,e1,j0,j1⟩ <;> rcases p.cases o gm with ⟨i',a',b',e1'⟩|⟨i',a',e1'⟩|⟨a',_⟩|⟨i',a',q',x',y',e1',j0',j1'⟩
   ·exact o.one h i g i' (by rw [← e1,← e1',e])
   ·rw [e1,e1'] at e;exact absurd (congrArg Prod.fst e) a
   ·exact absurd a' low'
   ·rw [e1,e1'] at e;exact absurd (congrArg Prod.fst e) a
   ·rw [e1,e1'] at e;exact absurd (congrArg Prod.fst e).symm a'
   ·rw [e1,e1'] at e
    exact o.one h i g i' (Prod.ext (by rw [a,a']) (Prod.mk.inj e).2)
   ·exact absurd a' low'
   ·exfalso
    rw [e1,e1'] at e
    have e2:(M.nd h).2=(x',y'):=(Prod.mk.inj e).2
    have d:=deep i a
    rw [e2] at d
    exact (p.both_low o i' j0' j1').elim d.1 d.2
   ·exact absurd a low
   ·exact absurd a low
   ·exact absurd a low
   ·exact absurd a low
   ·rw [e1,e1'] at e;exact absurd (congrArg Prod.fst e).symm a'
   ·exfalso
    rw [e1,e1'] at e
    have e2:(M.nd g).2=(x,y):=((Prod.mk.inj e).2).symm
    have d:=deep i' a'
    rw [e2] at d
    exact (p.both_low o i j0 j1).elim d.1 d.2
   ·exact absurd a' low'
   ·rw [e1,e1'] at e
    simp only [Prod.mk.injEq,true_and] at e
    obtain ⟨rfl,rfl⟩:=e
    have c:=fun b=>cof_node o p.kn (o.lo h i).1 (by have:=(o.lo h i).2;omega:k<M.lev (M.nd h).2.1) b
    have c':=fun b=>cof_node o p.kn (o.lo g i').1 (by have:=(o.lo g i').2;omega:k<M.lev (M.nd g).2.1) b
    obtain ⟨f1,f2⟩:=p.jn_one o j0 j0' (c _) (c' _)
    obtain ⟨f3,f4⟩:=p.jn_one o j1 j1' (c _) (c' _)
    exact o.one h i g i' (Prod.ext (by rw [a,a']) (Prod.ext (cof_inj o kn (o.lo h i).1 (o.lo g i').1 f1 f3) (cof_inj o kn (o.hi h i).1 (o.hi g i').1 f2 f4)))
theorem val (p:Plan M k M') (o:M.Ok):∀ {x:Nat},M.isNode x→∀ s,M'.val x s=M.val x s:=by
 have o':=p.ok o
 have kn:=p.kn
 have main:∀ d x,M.isNode x→M.n - M.lev x≤d→∀ s,M'.val x s=M.val x s:=by
  intro d
  induction d with
  | zero =>
   intro x hx hd s
   have hc:x<2:=by
    rcases hx with e|e
    ·exact e
    ·have:=o.lv x e;rw [Mdl.lev_in o e] at hd;omega
   rw [Mdl.val_const hc,Mdl.val_const hc]
  | succ d ih =>
   intro x hx hd s
   by_cases hc:x<2
   ·rw [Mdl.val_const hc,Mdl.val_const hc]
   ·have hm:=hx.resolve_left hc
    have l:=o.lo x hm
    have r:=o.hi x hm
    rw [Mdl.lev_in o hm] at hd
    have jn:∀ {y a b:Nat},Jn M' k y a b→M.isNode a∧k+1<M.lev a→M.isNode b∧k+1<M.lev b→(M.nd x).1=k→M'.val y s=if s (M.v k)=true then M.val b s else M.val a s:=fun {y a b} j ha hb hk=>by
     have ea:=ih a ha.1 (by omega) s
     have eb:=ih b hb.1 (by omega) s
     rcases j with ⟨rfl,rfl⟩|⟨_,hy,e⟩
     ·rw [ea];split <;> rfl
     ·rw [Mdl.val_in o' hy,e,p.v]
      show (if s (swv M.v k (k+1))=true then M'.val b s else M'.val a s)=_
      rw [swv_k1,ea,eb]
    rcases p.cases o (p.keep x hm) with ⟨_,a,b,e⟩|⟨_,a,e⟩|⟨a,_⟩|⟨_,a,q,y,z,e,j0,j1⟩
    ·rw [Mdl.val_in o' (p.keep x hm),Mdl.val_in o hm,e,p.v,swv_far a b,ih _ l.1 (by omega),ih _ r.1 (by omega)]
    ·rw [Mdl.val_in o' (p.keep x hm),Mdl.val_in o hm,e,p.v,a]
     show (if s (swv M.v k k)=true then _ else _)=_
     rw [swv_k,ih _ l.1 (by omega),ih _ r.1 (by omega)]
    ·have a0:(M.nd x).1=k∧M.lev (M.nd x).2.1≠k+1∧M.lev (M.nd x).2.2≠k+1:=by
      by_cases c:(M.nd x).1=k
      ·by_cases q:M.lev (M.nd x).2.1=k+1∨M.lev (M.nd x).2.2=k+1
       ·obtain ⟨y,z,e,_⟩:=p.both x hm c q
        rw [e] at a
        simp only at a
        omega
       ·exact ⟨c,not_or.1 q⟩
      ·exfalso
       by_cases b:(M.nd x).1=k+1
       ·rw [p.up x hm b] at a;simp only at a;omega
       ·rw [p.far x hm c b] at a;exact b a
     have e:=p.down x hm a0.1 a0.2.1 a0.2.2
     rw [Mdl.val_in o' (p.keep x hm),Mdl.val_in o hm,e,p.v,a0.1]
     show (if s (swv M.v k (k+1))=true then _ else _)=_
     rw [swv_k1,ih _ l.1 (by omega),ih _ r.1 (by omega)]
    ·have c:=fun b=>cof_node o kn l.1 (by have:=l.2;omega:k<M.lev (M.nd x).2.1) b
     have c':=fun b=>cof_node o kn r.1 (by have:=r.2;omega:k<M.lev (M.nd x).2.2) b
     rw [Mdl.val_in o' (p.keep x hm),Mdl.val_in o hm,e,p.v,a]
     show (if s (swv M.v k k)=true then M'.val z s else M'.val y s)=_
     rw [swv_k,jn j0 (c _) (c' _) a,jn j1 (c _) (c' _) a,cof_val o kn l.1 s,cof_val o kn r.1 s]
     cases s (M.v k) <;> cases s (M.v (k+1)) <;> rfl
 exact fun {x} hx s=>main _ x hx (Nat.le_refl _) s
end Plan
end
end Go.Proofs.YtnnmdkaoiofabaaGreat.Sw
namespace Go.Proofs.YtnnmdkaoiofabaaGreat.Sw
open Go Go.RowKit
structure MapIs (es:Array MapEntry) (clock:Nat) (l:List (Value × Value)):Prop where
 pairs:es.toList.map (fun e=>(e.key,e.val))=l
 old:∀ x∈es.toList,x.born<clock
 once:(es.toList.map (·.born)).Nodup
 nodup:(l.map (·.1)).Nodup
def IsM (w:World) (b:Nat) (l:List (Value × Value)):Prop:=∃ es clock,w.heap[b]? = some (.map es clock)∧MapIs es clock l
section
variable {w u:World} {b:Nat} {l:List (Value × Value)}
theorem IsM.lt (h:IsM w b l):b<w.heap.size:=by
 obtain ⟨es,clock,h,_⟩:=h
 exact (Array.getElem?_eq_some_iff.1 h).1
theorem IsM.same (h:IsM w b l) (e:u.heap[b]? = w.heap[b]?):IsM u b l:=by
 obtain ⟨es,clock,h,k⟩:=h
 exact ⟨es,clock,e.trans h,k⟩
theorem IsM.fresh (w:World):IsM (w.alloc (.map #[] 0)) w.heap.size []:=⟨#[],0,(MapKept.heap_alloc w _).1,⟨rfl,by simp,by simp,by simp⟩⟩
theorem IsM.put (h:IsM w b l) {t K E:TypeId} (ht:Tryz.prog.underlying t=some (.map K E)) (k v:Value) (hc:(Instr.checkKey false 10000 K k).run Tryz.prog w = .ok () w) (hf:∀ es:List MapEntry,es.map (fun e=>(e.key,e.val))=l→(Instr.findKey K k es).run Tryz.prog w = .ok none w) (hn:k ∉ l.map (·.1)) :
  ∃ w',(Instr.mapUpdate t (.map (some b)) k v).run Tryz.prog w = .ok () w'∧IsM w' b (l ++ [(k,v)])∧Turned b w w':=by
 obtain ⟨es,clock,hb,m⟩:=h
 have hf':=hf es.toList m.pairs
 refine ⟨{ w with heap:=w.heap.setIfInBounds b (.map (es.push { key:=k,val:=v,born:=clock }) (clock+1)) },?_,⟨_,_,heap_now hb,?_,?_,?_,?_⟩,heap_turn⟩
 ·simp only [Instr.mapUpdate,Sem.run_bind,run_underlying ht,Result.andThen_ok,MapKept.run_getObj_map hb,hc,hf']
  exact MapKept.run_setObj_map _ hb
 ·simp [m.pairs]
 ·intro x hx
  simp only [Array.toList_push,List.mem_append,List.mem_singleton] at hx
  rcases hx with hx|rfl
  ·exact Nat.lt_succ_of_lt (m.old x hx)
  ·exact Nat.lt_succ_self _
 ·simp only [Array.toList_push,List.map_append,List.map_cons,List.map_nil]
  refine List.nodup_append.2 ⟨m.once,by simp,fun a ha c hc'=>?_⟩
  simp only [List.mem_singleton] at hc'
  subst hc'
  obtain ⟨x,hx,rfl⟩:=List.mem_map.1 ha
  exact Nat.ne_of_lt (m.old x hx)
 ·rw [List.map_append,List.nodup_append]
  refine ⟨m.nodup,by simp,fun a ha c hc' e=>?_⟩
  simp at hc'
  subst hc'
  subst e
  exact hn ha
end
def ndV (d:Nd):Value:=.agg #[.int .i64 (d.1:Int),.int .u32 (d.2.1:Int),.int .u32 (d.2.2:Int)]
def hV (x:Nat):Value:=.int .u32 (x:Int)
theorem hV_inj {x y:Nat} (h:hV x=hV y):x=y:=by
 unfold hV at h
 injection h with _ h
 omega
theorem ndV_inj {d e:Nd} (h:ndV d=ndV e):d=e:=by
 unfold ndV at h
 simp only [Value.agg.injEq,Array.mk.injEq,List.cons.injEq,Value.int.injEq,true_and,and_true,Int.natCast_inj] at h
 exact Prod.ext h.1 (Prod.ext h.2.1 h.2.2)
def pH (p:Nat × Nd):Value × Value:=(hV p.1,ndV p.2)
def pL (p:Nd × Nat):Value × Value:=(ndV p.1,hV p.2)
def IsH (w:World) (b:Nat) (l:List (Nat × Nd)):Prop:=IsM w b (l.map pH)
def IsL (w:World) (b:Nat) (l:List (Nd × Nat)):Prop:=IsM w b (l.map pL)
theorem keysH (l:List (Nat × Nd)) (x:Nat):hV x∈(l.map pH).map (·.1)↔x∈l.map (·.1):=by
 simp only [List.map_map,List.mem_map,Function.comp,pH]
 exact ⟨fun ⟨p,hp,e⟩=>⟨p,hp,hV_inj e⟩,fun ⟨p,hp,e⟩=>⟨p,hp,by rw [e]⟩⟩
theorem keysL (l:List (Nd × Nat)) (d:Nd):ndV d∈(l.map pL).map (·.1)↔d∈l.map (·.1):=by
 simp only [List.map_map,List.mem_map,Function.comp,pL]
 exact ⟨fun ⟨p,hp,e⟩=>⟨p,hp,ndV_inj e⟩,fun ⟨p,hp,e⟩=>⟨p,hp,by rw [e]⟩⟩
theorem findH (x:Nat):∀ (es:List MapEntry) (l:List (Nat × Nd)) (i:Nat),es.map (fun e=>(e.key,e.val))=l.map pH→x ∉ l.map (·.1)→Instr.findNow (.int .u32) (hV x) es i=some none
 | [],_,_,_,_=>rfl
 | e :: es,[],_,h,_=>by simp at h
 | e :: es,p :: l,i,h,hn=>by
  simp only [List.map_cons,List.cons.injEq,pH,Prod.mk.injEq] at h
  obtain ⟨⟨h1,h2⟩,h3⟩:=h
  simp only [List.map_cons,List.mem_cons,not_or] at hn
  have c:((x:Int) == (p.1:Int))=false:=by
   rw [beq_eq_false_iff_ne]
   have:=hn.1
   omega
  have ih:=findH x es l (i+1) h3 hn.2
  unfold hV at h1 ih ⊢
  simp [Instr.findNow,h1,Instr.sameNow,c,ih]
theorem isKeyH (x:Nat):MapKept.IsKey (.int .u32) (hV x):=by simp [MapKept.IsKey,hV]
theorem putH {w:World} {b:Nat} {l:List (Nat × Nd)} (h:IsH w b l) (x:Nat) (d:Nd) (hn:x ∉ l.map (·.1)) :
  ∃ w',(Instr.mapUpdate 153 (.map (some b)) (.int .u32 (x:Int)) (ndV d)).run Tryz.prog w = .ok () w'∧IsH w' b (l ++ [(x,d)])∧Turned b w w':=by
 obtain ⟨w',h1,h2,h3⟩:=IsM.put h Tryz.underlying153 (hV x) (ndV d) (MapKept.run_checkKey Tryz.underlying36 (isKeyH x) false 9999) (fun es he=>MapKept.run_findKey Tryz.underlying36 (findH x es l 0 he hn)) (fun e=>hn ((keysH l x).1 e))
 refine ⟨w',h1,?_,h3⟩
 show IsM w' b _
 rw [List.map_append]
 exact h2
theorem node_fields : Tryz.prog.underlying 178=some (.struct (Tryz.prog.fieldsOf 178))∧Tryz.prog.stoodInHeld 178=false:=by
 constructor <;> kernel_rfl
theorem node_three : (Tryz.prog.fieldsOf 178).toList.map (fun f=>(f.name,f.type,f.offset))=[("Level",3,0),("Low",36,1),("High",36,2)]:=by kernel_rfl
theorem three_of {fs:List Field} {a b c:String × TypeId × Nat} (h:fs.map (fun f=>(f.name,f.type,f.offset))=[a,b,c]):∃ f g k,fs=[f,g,k]∧(f.name=a.1∧f.type=a.2.1∧f.offset=a.2.2)∧(g.name=b.1∧g.type=b.2.1∧g.offset=b.2.2)∧(k.name=c.1∧k.type=c.2.1∧k.offset=c.2.2):=by
 match fs,h with
 | [f,g,k],h =>
  simp only [List.map_cons,List.map_nil,List.cons.injEq,and_true] at h
  obtain ⟨rfl,rfl,rfl⟩:=h
  exact ⟨f,g,k,rfl,⟨rfl,rfl,rfl⟩,⟨rfl,rfl,rfl⟩,⟨rfl,rfl,rfl⟩⟩
theorem part_int (xs:Array Value) (k:Nat) (a:Int) (hx:xs[k]? = some (.int .i64 a)) (w:World):(part 3 xs k).run Tryz.prog w = .ok (.int .i64 a) w:=by
 simp [part,hx]
theorem part_h (xs:Array Value) (k:Nat) (a:Int) (hx:xs[k]? = some (.int .u32 a)) (w:World):(part 36 xs k).run Tryz.prog w = .ok (.int .u32 a) w:=by
 simp [part,hx]
theorem eq_nd (a b:Nd) (w:World):(Op.equal 178 (ndV a) (ndV b)).run Tryz.prog w = .ok (decide (a=b)) w:=by
 have hi:∀ (x y:Int) (w:World),(Op.equalIn 9999 3 (.int .i64 x) (.int .i64 y)).run Tryz.prog w = .ok (x == y) w:=fun x y w=>run_equalIn_int w 9998 3 .i64 .i64 x y Tryz.underlying3
 have hh:∀ (x y:Int) (w:World),(Op.equalIn 9999 36 (.int .u32 x) (.int .u32 y)).run Tryz.prog w = .ok (x == y) w:=fun x y w=>run_equalIn_int w 9998 36 .u32 .u32 x y Tryz.underlying36
 unfold Op.equal
 show (Op.equalIn (9999+1) 178 (ndV a) (ndV b)).run Tryz.prog w=_
 have e:decide (a=b)=(((a.1:Int) == (b.1:Int)) && (((a.2.1:Int) == (b.2.1:Int)) && ((a.2.2:Int) == (b.2.2:Int)))):=by
  rw [Bool.eq_iff_iff,decide_eq_true_iff]
  simp only [Bool.and_eq_true,beq_iff_eq,Int.natCast_inj]
  exact ⟨fun h=>by subst h;exact ⟨rfl,rfl,rfl⟩,fun h=>Prod.ext h.1 (Prod.ext h.2.1 h.2.2)⟩
 rw [e]
 unfold ndV
 rw [run_equalIn_struct (P:=Tryz.prog) w 9999 178 _ _ node_fields.1 node_fields.2]
 obtain ⟨f,g,k,hf,⟨a1,a2,a3⟩,⟨b1,b2,b3⟩,⟨c1,c2,c3⟩⟩:=three_of node_three
 rw [hf]
 generalize 9999=d at hi hh
 generalize (a.1:Int)=x0
 generalize (a.2.1:Int)=x1
 generalize (a.2.2:Int)=x2
 generalize (b.1:Int)=y0
 generalize (b.2.1:Int)=y1
 generalize (b.2.2:Int)=y2
 have p0:=fun w=>part_int #[.int .i64 x0,.int .u32 x1,.int .u32 x2] 0 x0 rfl w
 have p1:=fun w=>part_h #[.int .i64 x0,.int .u32 x1,.int .u32 x2] 1 x1 rfl w
 have p2:=fun w=>part_h #[.int .i64 x0,.int .u32 x1,.int .u32 x2] 2 x2 rfl w
 have q0:=fun w=>part_int #[.int .i64 y0,.int .u32 y1,.int .u32 y2] 0 y0 rfl w
 have q1:=fun w=>part_h #[.int .i64 y0,.int .u32 y1,.int .u32 y2] 1 y1 rfl w
 have q2:=fun w=>part_h #[.int .i64 y0,.int .u32 y1,.int .u32 y2] 2 y2 rfl w
 have n1:(("Level":String)≠ "_"):=by decide
 have n2:(("Low":String)≠ "_"):=by decide
 have n3:(("High":String)≠ "_"):=by decide
 simp only [Op.eqFields,a1,a2,a3,b1,b2,b3,c1,c2,c3,ne_eq,n1,n2,n3,not_false_eq_true,if_true,Sem.run_bind,Sem.run_ite,p0,p1,p2,q0,q1,q2,hi,hh,Result.andThen_ok,Sem.run_pure]
 cases x0 == y0 <;> cases x1 == y1 <;> cases x2 == y2 <;> rfl
theorem check_nd (d:Nd) (e:Bool) (w:World):(Instr.checkKey e 10000 178 (ndV d)).run Tryz.prog w = .ok () w:=by
 have hi:∀ (a:Int) (w:World),(Instr.checkKey e 9999 3 (.int .i64 a)).run Tryz.prog w = .ok () w:=fun a w=>MapKept.run_checkKey (d:=.int .i64) Tryz.underlying3 (by simp [MapKept.IsKey]) e 9998
 have hh:∀ (a:Int) (w:World),(Instr.checkKey e 9999 36 (.int .u32 a)).run Tryz.prog w = .ok () w:=fun a w=>MapKept.run_checkKey (d:=.int .u32) Tryz.underlying36 (by simp [MapKept.IsKey]) e 9998
 rw [show (10000:Nat)=9999+1 from rfl]
 obtain ⟨f,g,k,hf,⟨a1,a2,a3⟩,⟨b1,b2,b3⟩,⟨c1,c2,c3⟩⟩:=three_of node_three
 generalize 9999=n at hi hh
 unfold ndV
 generalize (d.1:Int)=x0
 generalize (d.2.1:Int)=x1
 generalize (d.2.2:Int)=x2
 have p0:=fun w=>part_int #[.int .i64 x0,.int .u32 x1,.int .u32 x2] 0 x0 rfl w
 have p1:=fun w=>part_h #[.int .i64 x0,.int .u32 x1,.int .u32 x2] 1 x1 rfl w
 have p2:=fun w=>part_h #[.int .i64 x0,.int .u32 x1,.int .u32 x2] 2 x2 rfl w
 have n1:(("Level":String)≠ "_"):=by decide
 have n2:(("Low":String)≠ "_"):=by decide
 have n3:(("High":String)≠ "_"):=by decide
 simp only [Instr.checkKey,Sem.run_bind,run_underlying node_fields.1,Result.andThen_ok]
 rw [← Array.forIn_toList,hf]
 simp only [List.forIn_cons,List.forIn_nil,a1,a2,a3,b1,b2,b3,c1,c2,c3,ne_eq,n1,n2,n3,not_false_eq_true,if_true,Sem.run_bind,p0,p1,p2,hi,hh,Result.andThen_ok,Sem.run_pure]
theorem askL (d:Nd) (w:World):∀ (es:List MapEntry) (l:List (Nd × Nat)) (i:Nat),es.map (fun e=>(e.key,e.val))=l.map pL →
  ((Instr.findAsking 178 (ndV d) es i).run Tryz.prog w = .ok none w∧d ∉ l.map (·.1))∨∃ j x,(Instr.findAsking 178 (ndV d) es i).run Tryz.prog w = .ok (some (i+j,hV x)) w∧l[j]? = some (d,x)
 | [],[],_,_=>.inl ⟨rfl,by simp⟩
 | [],p :: l,_,h=>by simp at h
 | e :: es,[],_,h=>by simp at h
 | e :: es,p :: l,i,h=>by
  simp only [List.map_cons,List.cons.injEq,pL,Prod.mk.injEq] at h
  obtain ⟨⟨h1,h2⟩,h3⟩:=h
  have heq:=eq_nd d p.1 w
  by_cases c:d=p.1
  ·right
   rw [decide_eq_true c] at heq
   refine ⟨0,p.2,?_,by simp [c]⟩
   simp only [Instr.findAsking,Sem.run_bind,h1,heq,Result.andThen_ok,if_true,Nat.add_zero,h2]
   rfl
  ·rw [decide_eq_false c] at heq
   rcases askL d w es l (i+1) h3 with ⟨r1,r2⟩|⟨j,x,r1,r2⟩
   ·left
    refine ⟨?_,by simp only [List.map_cons,List.mem_cons,not_or];exact ⟨c,r2⟩⟩
    simp only [Instr.findAsking,Sem.run_bind,h1,heq,Result.andThen_ok,Bool.false_eq_true,if_false]
    exact r1
   ·right
    refine ⟨j+1,x,?_,by simpa using r2⟩
    simp only [Instr.findAsking,Sem.run_bind,h1,heq,Result.andThen_ok,Bool.false_eq_true,if_false]
    rw [r1,show i+1+j=i+(j+1) by omega]
theorem findL (d:Nd) (w:World) (es:List MapEntry) (l:List (Nd × Nat)) (h:es.map (fun e=>(e.key,e.val))=l.map pL) :
  ((Instr.findKey 178 (ndV d) es).run Tryz.prog w = .ok none w∧d ∉ l.map (·.1))∨∃ j x,(Instr.findKey 178 (ndV d) es).run Tryz.prog w = .ok (some (j,hV x)) w∧l[j]? = some (d,x):=by
 cases es with
 | nil =>
  have:l=[]:=by cases l with|nil=>rfl|cons=>simp at h
  subst this
  left
  refine ⟨?_,by simp⟩
  simp only [Instr.findKey,Sem.run_bind,run_underlying node_fields.1,Result.andThen_ok,Instr.findNow]
  rfl
 | cons e es =>
  have hk:∃ u,e.key=ndV u:=by
   cases l with
   | nil=>simp at h
   | cons p l=>simp only [List.map_cons,List.cons.injEq,pL,Prod.mk.injEq] at h;exact ⟨p.1,h.1.1⟩
  obtain ⟨u,hu⟩:=hk
  have:=askL d w (e :: es) l 0 h
  simp only [Nat.zero_add] at this
  have hr:(Instr.findKey 178 (ndV d) (e :: es)).run Tryz.prog w=(Instr.findAsking 178 (ndV d) (e :: es)).run Tryz.prog w:=by
   simp only [Instr.findKey,Sem.run_bind,run_underlying node_fields.1,Result.andThen_ok,Instr.findNow,hu]
   rfl
  rw [hr]
  exact this
theorem putL {w:World} {b:Nat} {l:List (Nd × Nat)} (h:IsL w b l) (d:Nd) (x:Nat) (hn:d ∉ l.map (·.1)) :
  ∃ w',(Instr.mapUpdate 179 (.map (some b)) (ndV d) (.int .u32 (x:Int))).run Tryz.prog w = .ok () w'∧IsL w' b (l ++ [(d,x)])∧Turned b w w':=by
 obtain ⟨w',h1,h2,h3⟩:=IsM.put h Tryz.underlying179 (ndV d) (hV x) (check_nd d false w) (fun es he=>(findL d w es l he).elim (·.1) fun ⟨j,y,_,q⟩=>absurd (List.mem_map.2 ⟨_,List.mem_of_getElem? q,rfl⟩) hn) (fun e=>hn ((keysL l d).1 e))
 refine ⟨w',h1,?_,h3⟩
 show IsM w' b _
 rw [List.map_append]
 exact h2
theorem lookL_no {w:World} {b:Nat} {l:List (Nd × Nat)} (h:IsL w b l) (d:Nd) (hn:d ∉ l.map (·.1)) :
  (Instr.lookup 179 (.map (some b)) (ndV d) true).run Tryz.prog w = .ok (.tuple #[.int .u32 0,.bool false]) w:=by
 obtain ⟨es,clock,hb,m⟩:=h
 have hc:=check_nd d es.isEmpty w
 rcases findL d w es.toList l m.pairs with ⟨hf,_⟩|⟨j,x,_,q⟩
 ·simp only [Instr.lookup,Sem.run_bind,run_underlying Tryz.underlying179,Result.andThen_ok,MapKept.run_getObj_map hb,Sem.run_pure,hc,hf,zero3]
  rfl
 ·exact absurd (List.mem_map.2 ⟨_,List.mem_of_getElem? q,rfl⟩) hn
theorem lookL_yes {w:World} {b:Nat} {l:List (Nd × Nat)} (h:IsL w b l) (d:Nd) (x:Nat) (hx:(d,x)∈l) (both:Bool) :
  (Instr.lookup 179 (.map (some b)) (ndV d) both).run Tryz.prog w = .ok (if both then .tuple #[.int .u32 (x:Int),.bool true] else .int .u32 (x:Int)) w:=by
 obtain ⟨es,clock,hb,m⟩:=h
 have hc:=check_nd d es.isEmpty w
 have hnd:(l.map (·.1)).Nodup:=by
  have:=m.nodup
  rw [List.map_map] at this
  rw [show ((fun p:Value × Value=>p.1) ∘ pL)=ndV ∘ (·.1) from rfl,← List.map_map] at this
  exact (List.pairwise_map.1 this).imp fun h e=>h (by rw [e])
 rcases findL d w es.toList l m.pairs with ⟨_,hn⟩|⟨j,y,hf,q⟩
 ·exact absurd (List.mem_map.2 ⟨_,hx,rfl⟩) hn
 ·have e:y=x:=by
   obtain ⟨i,hi⟩:=List.mem_iff_getElem?.1 hx
   have e1:(l.map (·.1))[i]? = some d:=by simp [hi]
   have e2:(l.map (·.1))[j]? = some d:=by simp [q]
   have hij:i=j:=(List.getElem?_inj (List.getElem?_eq_some_iff.1 e1).1 hnd).1 (e1.trans e2.symm)
   rw [hij,q] at hi
   exact (Prod.mk.inj (Option.some.inj hi)).2
  subst e
  cases both
  ·simp only [Instr.lookup,Sem.run_bind,run_underlying Tryz.underlying179,Result.andThen_ok,MapKept.run_getObj_map hb,Sem.run_pure,hc,hf]
   rfl
  ·simp only [Instr.lookup,Sem.run_bind,run_underlying Tryz.underlying179,Result.andThen_ok,MapKept.run_getObj_map hb,Sem.run_pure,hc,hf]
   rfl
end Go.Proofs.YtnnmdkaoiofabaaGreat.Sw
namespace Go.Proofs.YtnnmdkaoiofabaaGreat.Sw
open Go Go.RowKit
def exCell (S k bn bl last:Nat) (i:Nat):Value:=
 if i=0 then .pointer (some ⟨S,0,none⟩) else if i=1 then .int .i64 (k:Int) else if i=2 then .map (some bn) else if i=3 then .map (some bl) else .int .u32 (last:Int)
structure Ex (w0 w:World) (E S bn bl k:Nat) (N:List (Nat × Nd)) (L:List (Nd × Nat)) (last:Nat):Prop where
 base:Below w0.heap.size w0 w
 blk:w.rowIs E 181 5 (exCell S k bn bl last)
 hN:IsH w bn N
 hL:IsL w bl L
 ne:bn≠bl
 aE:w0.heap.size≤E
 aN:w0.heap.size≤bn
 aL:w0.heap.size≤bl
def XF (E bn bl b:Nat):Prop:=b=E∨b=bn∨b=bl
section
variable {w0 w w':World} {E S bn bl k last:Nat} {N:List (Nat × Nd)} {L:List (Nd × Nat)} {M:Mdl} {F:Nat→Prop}
theorem Ex.kind (h:Ex w0 w E S bn bl k N L last):E≠bn∧E≠bl:=by
 obtain ⟨cs,hE,_⟩:=h.blk
 obtain ⟨e1,c1,h1,_⟩:=h.hN
 obtain ⟨e2,c2,h2,_⟩:=h.hL
 exact ⟨fun e=>by rw [e,h1] at hE;simp at hE,fun e=>by rw [e,h2] at hE;simp at hE⟩
theorem Ex.below (h:Ex w0 w E S bn bl k N L last) (g:Below w.heap.size w w'):Ex w0 w' E S bn bl k N L last:=
 ⟨h.base.trans (g.mono h.base.size),h.blk.of_block (g.block _ h.blk.lt),h.hN.same (g.block _ h.hN.lt),h.hL.same (g.block _ h.hL.lt),h.ne,h.aE,h.aN,h.aL⟩
theorem Ex.kept (h:Ex w0 w E S bn bl k N L last) {Q:Nat→Prop} (g:Went Q w w') (hQ:∀ b,Q b→w0.heap.size≤b) (n1:¬ Q E) (n2:¬ Q bn) (n3:¬ Q bl):Ex w0 w' E S bn bl k N L last:=
 ⟨⟨g.os.trans h.base.os,g.tape.trans h.base.tape,g.output.trans h.base.output,Nat.le_trans h.base.size g.size,fun b hb=>(g.block b (Nat.lt_of_lt_of_le hb h.base.size) fun e=>by have:=hQ b e;omega).trans (h.base.block b hb)⟩,h.blk.of_block (g.block _ h.blk.lt n1),h.hN.same (g.block _ h.hN.lt n2),h.hL.same (g.block _ h.hL.lt n3),h.ne,h.aE,h.aN,h.aL⟩
theorem Ex.drewN (h:Ex w0 w E S bn bl k N L last) (q:Nat):Ex w0 (w.drewN q) E S bn bl k N L last:=h.below ⟨rfl,rfl,rfl,Nat.le_refl _,fun _ _=>rfl⟩
theorem Ex.drew (h:Ex w0 w E S bn bl k N L last):Ex w0 w.drew E S bn bl k N L last:=h.below ⟨rfl,rfl,rfl,Nat.le_refl _,fun _ _=>rfl⟩
theorem Ex.new (h:Ex w0 w E S bn bl k N L last) (o:Obj):Ex w0 (w.alloc o) E S bn bl k N L last:=h.below ((Below.refl _ _).alloc (Nat.le_refl _) _)
theorem Ex.st (h:Ex w0 w E S bn bl k N L last) (s:St w0 S F M):St w S F M:=s.below h.base
theorem Ex.c0 (h:Ex w0 w E S bn bl k N L last):w.cell? ⟨E,0,none⟩=some (.pointer (some ⟨S,0,none⟩)):=h.blk.cell (i:=0) (by omega)
theorem Ex.c1 (h:Ex w0 w E S bn bl k N L last):w.cell? ⟨E,1,none⟩=some (.int .i64 (k:Int)):=h.blk.cell (i:=1) (by omega)
theorem Ex.c2 (h:Ex w0 w E S bn bl k N L last):w.cell? ⟨E,2,none⟩=some (.map (some bn)):=h.blk.cell (i:=2) (by omega)
theorem Ex.c3 (h:Ex w0 w E S bn bl k N L last):w.cell? ⟨E,3,none⟩=some (.map (some bl)):=h.blk.cell (i:=3) (by omega)
theorem Ex.c4 (h:Ex w0 w E S bn bl k N L last):w.cell? ⟨E,4,none⟩=some (.int .u32 (last:Int)):=h.blk.cell (i:=4) (by omega)
theorem onLower_any (s:St w0 S F M) (h:Ex w0 w E S bn bl k N L last) (kn:k+1<M.n) (x:Nat) (hx:x<4294967296) :
  Calls Tryz.prog 123 #[.pointer (some ⟨E,0,none⟩),.int .u32 (x:Int)] w fun e w'=>e = .returned (.bool (M.levI x == (k:Int)+1))∧∃ q,w'=w.drewN q:=by
 have n8:=s.ok.le8
 have c0:=h.c0
 have c1:=h.c1
 have KL:∀ q,Calls Tryz.prog 63 #[.pointer (some ⟨S,0,none⟩),.int .u32 (x:Int)] (w.drewN q) fun e w'=>e = .returned (.int .i64 (M.levI x))∧w'=w.drewN q:=fun q=>s_level ((h.drewN q).st s) x hx
 have hw:IntKind.i64.wrap ((k:Int)+1)=(k:Int)+1:=by rw [IntKind.wrap_i64];omega
 have hw2:wrap64 ((k:Int)+1)=(k:Int)+1:=by unfold wrap64;omega
 generalize M.levI x=z at KL
 clear h s
 go_enter Tryz.func123,Tryz.ntmps123
 go_wp2_with fail
 go_quiet ((go_at_call 63;exact Calls.quiet_of_same (KL _)))
 go_wp2_with fail
 go_ret
 exact ⟨rfl,_,rfl⟩
theorem cof_of (o:M.Ok) (kn:k+1<M.n) {x:Nat} (nx:M.isNode x):(M.levI x == (k:Int)+1)=decide (M.lev x=k+1)∧(M.lev x=k+1→M.lowN x=cof M k x false∧M.highN x=cof M k x true):=by
 rw [Mdl.levI_node nx]
 refine ⟨?_,fun e=>?_⟩
 ·rw [Bool.eq_iff_iff,beq_iff_eq,decide_eq_true_iff]
  omega
 ·obtain ⟨hm,_⟩:=low_in o kn nx e
  exact ⟨by rw [Mdl.lowN_in o hm,cof_lo e],by rw [Mdl.highN_in o hm,cof_hi e]⟩
theorem at_lo (s:St w0 S F M) (h:Ex w0 w E S bn bl k N L last) (kn:k+1<M.n) {x:Nat} (nx:M.isNode x) :
  Calls Tryz.prog 125 #[.pointer (some ⟨E,0,none⟩),.int .u32 (x:Int),.func (.func 64) #[.pointer (some ⟨S,0,none⟩)] #[]] w fun e w'=>e = .returned (.int .u32 (cof M k x false:Int))∧∃ q,w'=w.drewN q:=by
 have hx:x<4294967296:=by have:=s.nodes nx;have:=s.room.2;omega
 obtain ⟨c1,c2⟩:=cof_of s.ok kn nx
 have K:=onLower_any s h kn x hx
 rw [c1] at K
 by_cases e:M.lev x=k+1
 ·rw [decide_eq_true e] at K
  have e2:=(c2 e).1
  have KS:Aside (∀ q,Calls Tryz.prog 64 #[.pointer (some ⟨S,0,none⟩),.int .u32 (x:Int)] (w.drewN q) fun e w'=>e = .returned (.int .u32 (cof M k x false:Int))∧w'=w.drewN q):=fun q=>by
   have:=s_low ((h.drewN q).st s) x hx
   rwa [e2] at this
  generalize cof M k x false=y at KS
  clear h s c1 c2 e e2 nx
  go_enter Tryz.func125,Tryz.ntmps125
  go_wp2_with (first
   | (go_at_call 123;refine K.mono ?_;clear K;rintro e w1 ⟨rfl,q,rfl⟩;have K2:=KS.out q)
   | (go_at_call 64;refine K2.mono ?_;clear K2;rintro e w1 ⟨rfl,rfl⟩))
  go_ret
  exact ⟨rfl,_,rfl⟩
 ·rw [decide_eq_false e] at K
  rw [cof_no e]
  clear h s c1 c2 e nx
  go_enter Tryz.func125,Tryz.ntmps125
  go_wp2_with (first
   | (go_at_call 123;refine K.mono ?_;clear K;rintro e w1 ⟨rfl,q,rfl⟩))
  go_ret
  exact ⟨rfl,_,rfl⟩
theorem at_hi (s:St w0 S F M) (h:Ex w0 w E S bn bl k N L last) (kn:k+1<M.n) {x:Nat} (nx:M.isNode x) :
  Calls Tryz.prog 125 #[.pointer (some ⟨E,0,none⟩),.int .u32 (x:Int),.func (.func 65) #[.pointer (some ⟨S,0,none⟩)] #[]] w fun e w'=>e = .returned (.int .u32 (cof M k x true:Int))∧∃ q,w'=w.drewN q:=by
 have hx:x<4294967296:=by have:=s.nodes nx;have:=s.room.2;omega
 obtain ⟨c1,c2⟩:=cof_of s.ok kn nx
 have K:=onLower_any s h kn x hx
 rw [c1] at K
 by_cases e:M.lev x=k+1
 ·rw [decide_eq_true e] at K
  have e2:=(c2 e).2
  have KS:Aside (∀ q,Calls Tryz.prog 65 #[.pointer (some ⟨S,0,none⟩),.int .u32 (x:Int)] (w.drewN q) fun e w'=>e = .returned (.int .u32 (cof M k x true:Int))∧w'=w.drewN q):=fun q=>by
   have:=s_high ((h.drewN q).st s) x hx
   rwa [e2] at this
  generalize cof M k x true=y at KS
  clear h s c1 c2 e e2 nx
  go_enter Tryz.func125,Tryz.ntmps125
  go_wp2_with (first
   | (go_at_call 123;refine K.mono ?_;clear K;rintro e w1 ⟨rfl,q,rfl⟩;have K2:=KS.out q)
   | (go_at_call 65;refine K2.mono ?_;clear K2;rintro e w1 ⟨rfl,rfl⟩))
  go_ret
  exact ⟨rfl,_,rfl⟩
 ·rw [decide_eq_false e] at K
  rw [cof_no e]
  clear h s c1 c2 e nx
  go_enter Tryz.func125,Tryz.ntmps125
  go_wp2_with (first
   | (go_at_call 123;refine K.mono ?_;clear K;rintro e w1 ⟨rfl,q,rfl⟩))
  go_ret
  exact ⟨rfl,_,rfl⟩
theorem went_drewN {Q:Nat→Prop} {a b:World} (h:Went Q a b) (q:Nat):Went Q a (b.drewN q):=⟨h.os,h.tape,h.output,h.size,h.block⟩
theorem Turned.went {b:Nat} {Q:Nat→Prop} (t:Turned b w w') (hb:Q b):Went Q w w':=⟨t.os,t.tape,t.output,Nat.le_of_eq t.size.symm,fun i _ hn=>t.block i fun e=>hn (e ▸ hb)⟩
theorem Ex.turnN (h:Ex w0 w E S bn bl k N L last) {N':List (Nat × Nd)} (t:Turned bn w w') (n:IsH w' bn N'):Ex w0 w' E S bn bl k N' L last∧Went (XF E bn bl) w w':=by
 obtain ⟨k1,k2⟩:=h.kind
 exact ⟨⟨⟨t.os.trans h.base.os,t.tape.trans h.base.tape,t.output.trans h.base.output,by have:=t.size;have:=h.base.size;omega,fun b hb=>(t.block b (by have:=h.aN;omega)).trans (h.base.block b hb)⟩,h.blk.of_block (t.block _ k1),n,h.hL.same (t.block _ h.ne.symm),h.ne,h.aE,h.aN,h.aL⟩,Turned.went t (.inr (.inl rfl))⟩
theorem Ex.turnL (h:Ex w0 w E S bn bl k N L last) {L':List (Nd × Nat)} (t:Turned bl w w') (n:IsL w' bl L'):Ex w0 w' E S bn bl k N L' last∧Went (XF E bn bl) w w':=by
 obtain ⟨k1,k2⟩:=h.kind
 exact ⟨⟨⟨t.os.trans h.base.os,t.tape.trans h.base.tape,t.output.trans h.base.output,by have:=t.size;have:=h.base.size;omega,fun b hb=>(t.block b (by have:=h.aL;omega)).trans (h.base.block b hb)⟩,h.blk.of_block (t.block _ k2),h.hN.same (t.block _ h.ne),n,h.ne,h.aE,h.aN,h.aL⟩,Turned.went t (.inr (.inr rfl))⟩
theorem Ex.setLast (h:Ex w0 w E S bn bl k N L last) (y:Nat):Ex w0 (w.setCell ⟨E,4,none⟩ (.int .u32 (y:Int))) E S bn bl k N L y∧Went (XF E bn bl) w (w.setCell ⟨E,4,none⟩ (.int .u32 (y:Int))):=by
 obtain ⟨k1,k2⟩:=h.kind
 have kp:∀ b,b≠E→(w.setCell ⟨E,4,none⟩ (.int .u32 (y:Int))).heap[b]? = w.heap[b]?:=fun b e=>Below.heap_setCell _ _ _ _ e
 refine ⟨⟨h.base.setCell h.aE _,(h.blk.set 4 _).congr fun i hi=>?_,h.hN.same (kp _ k1.symm),h.hL.same (kp _ k2.symm),h.ne,h.aE,h.aN,h.aL⟩,Went.set (.inl rfl) _ _⟩
 have:i=0∨i=1∨i=2∨i=3∨i=4:=by omega
 rcases this with rfl|rfl|rfl|rfl|rfl <;> rfl
def ndC (d:Nd) (i:Nat):Value:=if i=0 then .int .i64 (d.1:Int) else if i=1 then .int .u32 (d.2.1:Int) else .int .u32 (d.2.2:Int)
theorem nd_row {B:Nat} {d:Nd} (h:w.rowIs B 178 3 (ndC d)):w.cell? ⟨B,0,none⟩=some (.int .i64 (d.1:Int))∧w.cell? ⟨B,1,none⟩=some (.int .u32 (d.2.1:Int))∧w.cell? ⟨B,2,none⟩=some (.int .u32 (d.2.2:Int)):=
 ⟨h.cell (i:=0) (by omega),h.cell (i:=1) (by omega),h.cell (i:=2) (by omega)⟩
theorem nd_new (w:World) (d:Nd):(w.alloc (.cells #[.int .i64 (d.1:Int),.int .u32 (d.2.1:Int),.int .u32 (d.2.2:Int)] 178)).rowIs w.heap.size 178 3 (ndC d):=⟨_,Go.Deep.blk_alloc_new w _,rfl,fun i hi=>by
  have:i=0∨i=1∨i=2:=by omega
  rcases this with rfl|rfl|rfl <;> rfl⟩
theorem put_any (h:Ex w0 w E S bn bl k N L last) (x:Nat) (d:Nd) (hx:x ∉ N.map (·.1)) (hd:d ∉ L.map (·.1)) (kb:k≤8) :
  Calls Tryz.prog 104 #[.pointer (some ⟨E,0,none⟩),.int .u32 (x:Int),ndV d] w fun e w'=>e = .returned (.tuple #[])∧Ex w0 w' E S bn bl k (N ++ [(x,d)]) (if d.1=k+1 then L ++ [(d,x)] else L) last∧Went (XF E bn bl) w w':=by
 have hw:IntKind.i64.wrap ((k:Int)+1)=(k:Int)+1:=by rw [IntKind.wrap_i64];omega
 have hw2:wrap64 ((k:Int)+1)=(k:Int)+1:=by unfold wrap64;omega
 obtain ⟨l,a,b⟩:=d
 obtain ⟨B,hB⟩:∃ B,w.heap.size=B:=⟨_,rfl⟩
 obtain ⟨w1,hw1⟩:∃ w1,w1=w.alloc (.cells #[.int .i64 (l:Int),.int .u32 (a:Int),.int .u32 (b:Int)] 178):=⟨_,rfl⟩
 have h1:=h.new (.cells #[.int .i64 (l:Int),.int .u32 (a:Int),.int .u32 (b:Int)] 178)
 have r1:=nd_new w (l,a,b)
 have g1:Aside (Went (XF E bn bl) w w1):=by show Went _ _ _;rw [hw1];exact Went.new _ _ _
 rw [hB] at r1
 change World.rowIs (w.alloc (.cells #[.int .i64 (l:Int),.int .u32 (a:Int),.int .u32 (b:Int)] 178)) _ _ _ _ at r1
 rw [← hw1] at h1 r1
 obtain ⟨b0,b1,b2⟩:=nd_row r1
 have c2:=h1.c2
 obtain ⟨w2,hr2,n2,t2⟩:=putH h1.drew.hN x (l,a,b) hx
 change (Instr.mapUpdate _ _ _ (.agg #[.int .i64 (l:Int),.int .u32 (a:Int),.int .u32 (b:Int)])).run Tryz.prog w1.drew=_ at hr2
 change Calls _ _ #[_,_,.agg #[.int .i64 (l:Int),.int .u32 (a:Int),.int .u32 (b:Int)]] _ _
 have bE:B≠E:=fun e=>by have:=h.blk.lt;omega
 have bN:B≠bn:=fun e=>by have:=h.hN.lt;omega
 have bL:B≠bl:=fun e=>by have:=h.hL.lt;omega
 obtain ⟨h2,g2⟩:=h1.drew.turnN t2 n2
 have r2:=r1.of_block (w':=w2) (t2.block B bN)
 have h2A:Aside (Ex w0 w2 E S bn bl k (N ++ [(x,l,a,b)]) L last):=h2
 have g2A:Aside (Went (XF E bn bl) w w2):=g1.out.trans ((Went.refl (XF E bn bl) w1).drew.trans g2)
 have c1':=h2.c1
 obtain ⟨d0,d1,d2⟩:=nd_row r2
 have r2A:Aside (w2.rowIs B 178 3 (ndC (l,a,b))):=r2
 clear h r1 h1 n2 t2 g2 h2 r2
 by_cases e:l=k+1
 ·have eb:((l:Int) == (k:Int)+1)=true:=by rw [beq_iff_eq];omega
  rw [if_pos e]
  generalize hz:(l:Int)=z at hw1 b0 hr2 d0 eb ⊢
  have hzA:Aside ((l:Int)=z):=hz
  clear hz e
  go_enter Tryz.func104,Tryz.ntmps104
  go_wp2_with fail
  rw [← hw1]
  clear hw1 hB
  go_region
  go_wp2_with fail
  go_quiet (fail)
  have h3:=h2A.out.drewN nq
  have r3:=World.rowIs.of_block (w':=w2.drewN nq) r2A.out rfl
  obtain ⟨w3,hr3,n3,t3⟩:=putL h3.drew.hL (l,a,b) x hd
  change (Instr.mapUpdate _ _ (.agg #[.int .i64 (l:Int),.int .u32 (a:Int),.int .u32 (b:Int)]) _).run Tryz.prog (w2.drewN nq).drew=_ at hr3
  rw [hzA.out] at hr3
  obtain ⟨h4,g4⟩:=h3.drew.turnL t3 n3
  have h4A:Aside (Ex w0 w3 E S bn bl k (N ++ [(x,l,a,b)]) (L ++ [((l,a,b),x)]) last):=h4
  have g4A:Aside (Went (XF E bn bl) w w3):=(went_drewN g2A.out nq).trans ((Went.refl (XF E bn bl) (w2.drewN nq)).drew.trans g4)
  have c3:=h3.c3
  obtain ⟨q0,q1,q2⟩:=nd_row r3
  change _=some (Value.int IntKind.i64 (l:Int)) at q0
  rw [hzA.out] at q0
  clear h3 r3 t3 n3 h4 g4 c1' c2 b0 b1 b2 d0 d1 d2
  generalize w2.drewN nq=w5 at hr3 c3 q0 q1 q2 ⊢
  go_wp2_with fail
  go_region
  go_wp2_with fail
  go_end0
  exact ⟨rfl,h4A.out,g4A.out⟩
 ·have eb:((l:Int) == (k:Int)+1)=false:=by rw [beq_eq_false_iff_ne];omega
  rw [if_neg e]
  generalize hz:(l:Int)=z at hw1 b0 hr2 d0 eb ⊢
  have hzA:Aside ((l:Int)=z):=hz
  clear hz e
  go_enter Tryz.func104,Tryz.ntmps104
  go_wp2_with fail
  rw [← hw1]
  clear hw1 hB
  go_region
  go_wp2_with fail
  go_quiet (fail)
  go_wp2_with fail
  go_end0
  exact ⟨rfl,h2A.out.drewN nq,went_drewN g2A.out nq⟩
end
end Go.Proofs.YtnnmdkaoiofabaaGreat.Sw
namespace Go.Proofs.YtnnmdkaoiofabaaGreat.Sw
open Go Go.RowKit
section
variable {w0 w w':World} {E S bn bl k last:Nat} {N:List (Nat × Nd)} {L:List (Nd × Nat)} {M:Mdl} {F:Nat→Prop}
theorem free_any (s:St w0 S F M) (h:Ex w0 w E S bn bl k N L last) (hl:last≤1+M.room) :
  Calls Tryz.prog 153 #[.pointer (some ⟨E,0,none⟩)] w fun e w'=>∃ y:Nat,e = .returned (.int .u32 (y:Int))∧last<y∧¬ M.isNode y∧(∀ z,last<z→z<y→M.isNode z)∧Ex w0 w' E S bn bl k N L y∧Went (XF E bn bl) w w':=by
 have r2:=s.room.2
 have c4:=h.c4
 have f4:=h.blk.frozen 4
 have hw1:IntKind.u32.wrap ((last:Int)+1)=(last:Int)+1:=by rw [IntKind.wrap_u32];omega
 obtain ⟨h1,g1⟩:=h.setLast (last+1)
 rw [show ((last+1:Nat):Int)=(last:Int)+1 by omega] at h1 g1
 have h1A:Aside (Ex w0 (w.setCell ⟨E,4,none⟩ (.int .u32 ((last:Int)+1))) E S bn bl k N L (last+1)):=h1
 have g1A:Aside (Went (XF E bn bl) w (w.setCell ⟨E,4,none⟩ (.int .u32 ((last:Int)+1)))):=g1
 have sA:Aside (St w0 S F M):=s
 have topA:Aside (∀ z,M.isNode z→z<2+M.room):=fun z hz=>s.nodes hz
 clear h h1 g1 s
 go_enter Tryz.func153,Tryz.ntmps153
 go_wp2_with fail
 go_loopg [10] (M.room+3) (fun g _ wr=>∃ y:Nat,y+g=M.room+last+4∧last<y∧Aside (∀ z,last<z→z<y→M.isNode z)∧Aside (Ex w0 wr E S bn bl k N L y)∧Aside (Went (XF E bn bl) w wr))
 case atStart=>exact ⟨last+1,by omega,by omega,fun z h1 h2=>by omega,h1A.out,g1A.out⟩
 case round =>
  obtain ⟨y,hg,hy,hn,hE,hG⟩:=hrel
  have hnA:Aside (∀ z,last<z→z<y→M.isNode z):=hn
  have hEA:Aside (Ex w0 wr E S bn bl k N L y):=hE
  have hGA:Aside (Went (XF E bn bl) w wr):=hG
  clear hn hE hG
  have hyr:y≤2+M.room:=by
   by_cases c:y≤last+1
   ·omega
   ·have:=topA.out _ (hnA.out (y - 1) (by omega) (by omega))
    omega
  have KI:∀ q,Calls Tryz.prog 25 #[.pointer (some ⟨S,0,none⟩),.int .u32 (y:Int)] (wr.drewN q) fun e w'=>e = .returned (.bool (M.nodeB y))∧w'=wr.drewN q:=fun q=>s_is ((hEA.out.drewN q).st sA.out) y (by omega)
  have c0:=hEA.out.c0
  have c4:=hEA.out.c4
  have hgA:Aside (y+gk=M.room+last+4∧last<y):=⟨hg,hy⟩
  clear hg hy f4 hw1
  by_cases nd:M.isNode y
  ·rw [Mdl.nodeB_true nd] at KI
   have ndA:Aside (M.isNode y):=nd
   clear nd
   go_wp2_with fail
   go_quiet ((go_at_call 25;exact Calls.quiet_of_same (KI _)))
   have hw2:IntKind.u32.wrap ((y:Int)+1)=(y:Int)+1:=by rw [IntKind.wrap_u32];omega
   have hE2:=hEA.out.drewN nq
   have d4:=hE2.c4
   have f4:=hE2.blk.frozen 4
   obtain ⟨h3,g3⟩:=hE2.setLast (y+1)
   rw [show ((y+1:Nat):Int)=(y:Int)+1 by omega] at h3 g3
   have h3A:Aside (Ex w0 ((wr.drewN nq).setCell ⟨E,4,none⟩ (.int .u32 ((y:Int)+1))) E S bn bl k N L (y+1)):=h3
   have g3A:Aside (Went (XF E bn bl) w ((wr.drewN nq).setCell ⟨E,4,none⟩ (.int .u32 ((y:Int)+1)))):=(went_drewN hGA.out nq).trans g3
   clear hE2 h3 g3
   go_wp2_with fail
   go_roundg (gk - 1)
   case measure=>have:=hgA.out;have:=topA.out y ndA.out;omega
   case rel =>
    have:=hgA.out
    have:=topA.out y ndA.out
    refine ⟨y+1,by omega,by omega,fun z h1 h2=>?_,h3A.out,g3A.out⟩
    by_cases e:z=y
    ·rw [e];exact ndA.out
    ·exact hnA.out z h1 (by omega)
  ·rw [Mdl.nodeB_false nd] at KI
   have ndA:Aside (¬ M.isNode y):=nd
   clear nd
   go_wp2_with fail
   go_quiet ((go_at_call 25;exact Calls.quiet_of_same (KI _)))
   go_wp2_with fail
   go_ret
   exact ⟨y,rfl,hgA.out.2,ndA.out,hnA.out,hEA.out.drewN nq,went_drewN hGA.out nq⟩
def JnS (M:Mdl) (k p q:Nat) (N:List (Nat × Nd)) (L:List (Nd × Nat)) (last x:Nat) (N':List (Nat × Nd)) (L':List (Nd × Nat)) (last':Nat):Prop:=
 (p=q∧x=p∧N'=N∧L'=L∧last'=last)∨(p≠q∧((k+1,p,q),x)∈L∧N'=N∧L'=L∧last'=last)∨(p≠q∧(k+1,p,q) ∉ L.map (·.1)∧last<x∧¬ M.isNode x∧(∀ z,last<z→z<x→M.isNode z)∧N'=N ++ [(x,(k+1,p,q))]∧L'=L ++ [((k+1,p,q),x)]∧last'=x)
theorem nd_kept {B:Nat} {d:Nd} {Q:Nat→Prop} (r:w.rowIs B 178 3 (ndC d)) (g:Went Q w w') (n:¬ Q B):w'.rowIs B 178 3 (ndC d):=r.of_block (g.block _ r.lt n)
theorem nd_three {B p q:Nat} (r:w.rowIs B 178 3 (ndC (k+1,p,q))):w.cell? ⟨B,0,none⟩=some (.int .i64 ((k:Int)+1))∧w.cell? ⟨B,1,none⟩=some (.int .u32 (p:Int))∧w.cell? ⟨B,2,none⟩=some (.int .u32 (q:Int)):=by
 obtain ⟨b0,b1,b2⟩:=nd_row r
 change _=some (Value.int IntKind.i64 ((k+1:Nat):Int)) at b0
 rw [show ((k+1:Nat):Int)=(k:Int)+1 by omega] at b0
 exact ⟨b0,b1,b2⟩
theorem join_any (s:St w0 S F M) (h:Ex w0 w E S bn bl k N L last) (hl:last≤1+M.room) (kn:k+1<M.n) (p q:Nat) (hN:∀ y∈N.map (·.1),M.isNode y∨y≤last) :
  Calls Tryz.prog 124 #[.pointer (some ⟨E,0,none⟩),.int .u32 (p:Int),.int .u32 (q:Int)] w fun e w'=>∃ (x:Nat) (N':List (Nat × Nd)) (L':List (Nd × Nat)) (last':Nat),e = .returned (.int .u32 (x:Int))∧JnS M k p q N L last x N' L' last'∧Ex w0 w' E S bn bl k N' L' last'∧Went (XF E bn bl) w w':=by
 have n8:=s.ok.le8
 by_cases e:p=q
 ·have eb:((p:Int) == (q:Int))=true:=by rw [beq_iff_eq];omega
  have fA:Aside (JnS M k p q N L last p N L last):=.inl ⟨e,rfl,rfl,rfl,rfl⟩
  clear e
  go_enter Tryz.func124,Tryz.ntmps124
  go_wp2_with fail
  go_ret
  exact ⟨p,N,L,last,rfl,fA.out,h,Went.refl _ _⟩
 ·have eb:((p:Int) == (q:Int))=false:=by rw [beq_eq_false_iff_ne];omega
  have hw:IntKind.i64.wrap ((k:Int)+1)=(k:Int)+1:=by rw [IntKind.wrap_i64];omega
  have hw2:wrap64 ((k:Int)+1)=(k:Int)+1:=by unfold wrap64;omega
  have c1:=h.c1
  have eA:Aside (p≠q):=e
  clear e
  obtain ⟨B,hB⟩:∃ B,w.heap.size=B:=⟨_,rfl⟩
  obtain ⟨w1,hw1⟩:∃ w1,w1=w.alloc (.cells #[.int .i64 ((k:Int)+1),.int .u32 (p:Int),.int .u32 (q:Int)] 178):=⟨_,rfl⟩
  have h1:=h.new (.cells #[.int .i64 ((k:Int)+1),.int .u32 (p:Int),.int .u32 (q:Int)] 178)
  have r1:=nd_new w (k+1,p,q)
  have hk1:((k+1:Nat):Int)=(k:Int)+1:=by omega
  change World.rowIs (w.alloc (.cells #[.int .i64 ((k+1:Nat):Int),.int .u32 (p:Int),.int .u32 (q:Int)] 178)) _ _ _ _ at r1
  rw [hB,hk1] at r1
  have g1:Aside (Went (XF E bn bl) w w1):=by show Went _ _ _;rw [hw1];exact Went.new _ _ _
  have bE:¬ XF E bn bl B:=by
   rintro (e|e|e)
   ·have:=h.blk.lt;omega
   ·have:=h.hN.lt;omega
   ·have:=h.hL.lt;omega
  have bEA:Aside (¬ XF E bn bl B):=bE
  rw [← hw1] at h1 r1
  obtain ⟨b0,b1,b2⟩:=nd_three r1
  have h1A:Aside (Ex w0 w1 E S bn bl k N L last):=h1
  have r1A:Aside (w1.rowIs B 178 3 (ndC (k+1,p,q))):=r1
  have hkA:Aside (((k+1:Nat):Int)=(k:Int)+1):=hk1
  have c3:=h1.c3
  have ndA:Aside (ndV (k+1,p,q) = .agg #[.int .i64 ((k:Int)+1),.int .u32 (p:Int),.int .u32 (q:Int)]):=by
   show ndV _=_
   unfold ndV
   rw [hk1]
  have hNA:Aside (∀ y∈N.map (·.1),M.isNode y∨y≤last):=hN
  clear h h1 r1 hk1 bE hN
  by_cases t:(k+1,p,q)∈L.map (·.1)
  ·obtain ⟨⟨d,y⟩,hm,hd⟩:=List.mem_map.1 t
   change d=(k+1,p,q) at hd
   subst hd
   have hmA:Aside (((k+1,p,q),y)∈L):=hm
   have hlk:∀ m,(Instr.lookup 179 (.map (some bl)) (.agg #[.int .i64 ((k:Int)+1),.int .u32 (p:Int),.int .u32 (q:Int)]) true).run Tryz.prog (w1.drewN m) = .ok (.tuple #[.int .u32 (y:Int),.bool true]) (w1.drewN m):=fun m=>by
    have:=lookL_yes (h1A.out.drewN m).hL (k+1,p,q) y hm true
    rwa [ndA.out] at this
   clear t hm
   go_enter Tryz.func124,Tryz.ntmps124
   go_wp2_with fail
   rw [← hw1]
   clear hw1 hB
   go_quiet (fail)
   have h2:=h1A.out.drewN nq
   have r2:=World.rowIs.of_block (w':=w1.drewN nq) r1A.out rfl
   have g2:Aside (Went (XF E bn bl) w (w1.drewN nq)):=went_drewN g1.out nq
   clear hlk b0 b1 b2 c3 h1A r1A g1
   generalize w1.drewN nq=w2 at h2 r2 g2 ⊢
   have hlk:∀ m,(Instr.lookup 179 (.map (some bl)) (.agg #[.int .i64 ((k:Int)+1),.int .u32 (p:Int),.int .u32 (q:Int)]) false).run Tryz.prog (w2.drewN m) = .ok (.int .u32 (y:Int)) (w2.drewN m):=fun m=>by
    have:=lookL_yes (h2.drewN m).hL (k+1,p,q) y hmA.out false
    rwa [ndA.out] at this
   have c3:=h2.c3
   obtain ⟨b0,b1,b2⟩:=nd_three r2
   have h2A:Aside (Ex w0 w2 E S bn bl k N L last):=h2
   clear h2 r2
   go_wp2_with fail
   go_quiet (fail)
   go_wp2_with fail
   go_ret
   exact ⟨y,N,L,last,rfl,.inr (.inl ⟨eA.out,hmA.out,rfl,rfl,rfl⟩),h2A.out.drewN _,went_drewN g2.out _⟩
  ·have tA:Aside ((k+1,p,q) ∉ L.map (·.1)):=t
   have hlk:∀ m,(Instr.lookup 179 (.map (some bl)) (.agg #[.int .i64 ((k:Int)+1),.int .u32 (p:Int),.int .u32 (q:Int)]) true).run Tryz.prog (w1.drewN m) = .ok (.tuple #[.int .u32 0,.bool false]) (w1.drewN m):=fun m=>by
    have:=lookL_no (h1A.out.drewN m).hL (k+1,p,q) t
    rwa [ndA.out] at this
   clear t
   go_enter Tryz.func124,Tryz.ntmps124
   go_wp2_with fail
   rw [← hw1]
   clear hw1 hB
   go_quiet (fail)
   have h2:=h1A.out.drewN nq
   have r2:=World.rowIs.of_block (w':=w1.drewN nq) r1A.out rfl
   have g2:Aside (Went (XF E bn bl) w (w1.drewN nq)):=went_drewN g1.out nq
   clear hlk b0 b1 b2 c3 h1A r1A g1
   generalize w1.drewN nq=w2 at h2 r2 g2 ⊢
   have K1:=free_any s h2.drew hl
   obtain ⟨b0,b1,b2⟩:=nd_three r2
   have C2:w2.drew.cell? ⟨B,0,none⟩=some (.int .i64 ((k:Int)+1))∧w2.drew.cell? ⟨B,1,none⟩=some (.int .u32 (p:Int))∧w2.drew.cell? ⟨B,2,none⟩=some (.int .u32 (q:Int)):=⟨b0,b1,b2⟩
   have r2A:Aside (w2.rowIs B 178 3 (ndC (k+1,p,q))):=r2
   have h2A:Aside (Ex w0 w2 E S bn bl k N L last):=h2
   clear r2 h2 b0 b1 b2
   go_wp2_with fail
   go_region_held3 (fun u=>u.cell? ⟨B,0,none⟩=some (.int .i64 ((k:Int)+1))∧u.cell? ⟨B,1,none⟩=some (.int .u32 (p:Int))∧u.cell? ⟨B,2,none⟩=some (.int .u32 (q:Int))) (first|assumption|exact C2) (first
    | (go_at_call 153;refine K1.mono ?_;clear K1;rintro e w3 ⟨y,rfl,y1,y2,y3,h3,g3⟩;have r3:Aside (w3.rowIs B 178 3 (ndC (k+1,p,q))):=nd_kept (w:=w2.drew) r2A.out g3 bEA.out;have C3:=nd_three r3.out;have K2:=put_any h3 y (k+1,p,q) (fun e=>(hNA.out y e).elim y2 fun z=>by omega) tA.out (by omega);have yA:Aside (last<y∧¬ M.isNode y∧∀ z,last<z→z<y→M.isNode z):=⟨y1,y2,y3⟩;have g3A:Aside (Went (XF E bn bl) w w3):=g2.out.trans ((Went.refl (XF E bn bl) w2).drew.trans g3);clear y1 y2 y3 g3;rw [ndA.out] at K2)
    | (go_at_call 104;refine K2.mono ?_;clear K2;rintro e w4 ⟨rfl,h4,g4⟩;have r4:Aside (w4.rowIs B 178 3 (ndC (k+1,p,q))):=nd_kept r3.out g4 bEA.out;have C4:=nd_three r4.out))
   all_goals
    have hlk:∀ m,(Instr.lookup 179 (.map (some bl)) (.agg #[.int .i64 ((k:Int)+1),.int .u32 (p:Int),.int .u32 (q:Int)]) false).run Tryz.prog (w4.drewN m) = .ok (.int .u32 (y:Int)) (w4.drewN m):=fun m=>by
     have:=lookL_yes (h4.drewN m).hL (k+1,p,q) y (by simp) false
     rwa [ndA.out] at this
    have c3:=h4.c3
    obtain ⟨b0,b1,b2⟩:=nd_three r4.out
    have h4A:Aside (Ex w0 w4 E S bn bl k (N ++ [(y,k+1,p,q)]) (L ++ [((k+1,p,q),y)]) y):=h4
    have g4A:Aside (Went (XF E bn bl) w w4):=g3A.out.trans g4
    clear h4 h3 g4 C3 C2
    go_wp2_with fail
    go_quiet (fail)
    go_wp2_with fail
    go_ret
    exact ⟨y,_,_,y,rfl,.inr (.inr ⟨eA.out,tA.out,yA.out.1,yA.out.2.1,yA.out.2.2,rfl,rfl,rfl⟩),h4A.out.drewN _,went_drewN g4A.out _⟩
end
end Go.Proofs.YtnnmdkaoiofabaaGreat.Sw
