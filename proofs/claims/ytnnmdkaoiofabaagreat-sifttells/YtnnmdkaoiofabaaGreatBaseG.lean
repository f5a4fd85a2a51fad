/-
  How many nodes there are at the lowest levels, without a program; functions that hang on some variables alone. Which functions a function is made of, level by level; what making one node more makes there be. No program is walked here. As many nodes as the reference counts: the functions of a store's nodes are the unlike parts of what was made. No program is walked here. The statements' look at all nodes of a store: each once, children deeper, handles rising. A function made node by node: the walk of the statements' help. A node's function, by its walk: the statements' help Func, Is, Make. A node's function: the statements' help Func, Is; rows of numbers held against one another (Ints). A node held against a function (Is). The reference's Trim and Size. An argument that is a table. A drawn statement, by an invariant that may speak of what has come up so far. Two tables loaded, each handed to a call, and both stored again: whatever the order.
-/
import Derived.Test.YtnnmdkaoiofabaaGreatBaseD
import Derived.Test.YtnnmdkaoiofabaaGreatBaseE
import Derived.Test.YtnnmdkaoiofabaaGreatBaseS
import Derived.Deep.LoopGhost
import Derived.Test.YtnnmdkaoiofabaaGreatBaseF
import Derived.Deep.RegionHeld3
import Derived.Lib.LaidTab
import Derived.WideKeyArr2
import Derived.OpenShut
namespace Go.Proofs.YtnnmdkaoiofabaaGreat
open Rf (fixAt fixF)
theorem nodup_le {α:Type} [DecidableEq α]:∀(l m:List α),l.Nodup→(∀x∈l,x∈m)→l.length≤m.length
 | [],_,_,_=>Nat.zero_le _
 | x :: l,m,hn,h=>by
  have hx:=h x (by simp);rw[List.nodup_cons]at hn;have:=nodup_le l (m.erase x) hn.2 fun y hy=>(List.mem_erase_of_ne (fun e:y=x=>hn.1 (e ▸ hy))).2 (h y (by simp[hy]))
  rw[List.length_erase_of_mem hx]at this;have:=List.length_pos_of_mem hx;simp;omega
theorem nodup_map_on {α β:Type}(f:α→β):∀(l:List α),l.Nodup→(∀x∈l,∀y∈l,f x=f y→x=y)→(l.map f).Nodup
 | [],_,_=>by simp
 | x :: l,hn,h=>by
  rw[List.nodup_cons]at hn;rw[List.map_cons,List.nodup_cons];refine⟨fun hm=>?_,nodup_map_on f l hn.2 fun a ha b hb e=>h a (by simp[ha]) b (by simp[hb]) e⟩;obtain⟨y,hy,e⟩:=List.mem_map.1 hm;have:=h y (by simp[hy]) x (by simp) e;exact hn.1 (this ▸ hy)
namespace Mdl
variable {M M':Mdl}
theorem Ok.nodup (o:M.Ok):M.hs.Nodup:=o.sorted.imp fun h=>Nat.ne_of_lt h
def up (M:Mdl):Nat:=(M.hs.filter fun h=>decide ((M.nd h).1+2<M.n)).length
theorem at_lowest (o:M.Ok):(M.hs.filter fun h=>decide ((M.nd h).1+1=M.n)).length≤2:=by
 have hn:=nodup_map_on M.nd _ (o.nodup.filter fun h=>decide ((M.nd h).1+1=M.n)) fun x hx y hy e=>o.one x (List.mem_filter.1 hx).1 y (List.mem_filter.1 hy).1 e
 have:=nodup_le _ [(M.n-1,0,1),(M.n-1,1,0)] hn fun d hd=>by
  obtain⟨h,hh,rfl⟩:=List.mem_map.1 hd;obtain⟨hm,hl⟩:=List.mem_filter.1 hh;have hl:=of_decide_eq_true hl;have c:∀z,M.isNode z→(M.nd h).1<M.lev z→z<2:=fun z hz hlz=>by
   rcases hz with e|e
   ·exact e
   ·have:=o.lv z e;rw[lev_in o e]at hlz;omega
  have a:=c _ (o.lo h hm).1 (o.lo h hm).2;have b:=c _ (o.hi h hm).1 (o.hi h hm).2;have ne:=o.ne h hm;have l1:(M.nd h).1=M.n-1:=by omega
  by_cases a0:(M.nd h).2.1=0
  ·have b1:(M.nd h).2.2=1:=by omega
   have:M.nd h=(M.n-1,0,1):=Prod.ext l1 (Prod.ext a0 b1);simp[this]
  ·have a1:(M.nd h).2.1=1:=by omega
   have b0:(M.nd h).2.2=0:=by omega
   have:M.nd h=(M.n-1,1,0):=Prod.ext l1 (Prod.ext a1 b0);simp[this]
 simpa using this
theorem at_second (o:M.Ok):(M.hs.filter fun h=>decide ((M.nd h).1+2=M.n)).length≤16:=by
 have hn:=nodup_map_on M.nd _ (o.nodup.filter fun h=>decide ((M.nd h).1+2=M.n)) fun x hx y hy e=>o.one x (List.mem_filter.1 hx).1 y (List.mem_filter.1 hy).1 e
 have hk:([0,1] ++ M.hs.filter fun h=>decide ((M.nd h).1+1=M.n)).length≤4:=by
  have:=at_lowest o;rw[List.length_append];simp;omega
 obtain⟨K,hK⟩:∃K,[0,1] ++ M.hs.filter (fun h=>decide ((M.nd h).1+1=M.n))=K:=⟨_,rfl⟩
 rw[hK]at hk;have:=nodup_le _ (K.flatMap fun a=>K.map fun b=>(M.n-2,a,b)) hn fun d hd=>by
  obtain⟨h,hh,rfl⟩:=List.mem_map.1 hd;obtain⟨hm,hl⟩:=List.mem_filter.1 hh;have hl:=of_decide_eq_true hl;have c:∀z,M.isNode z→(M.nd h).1<M.lev z→z∈K:=fun z hz hlz=>by
   rw[← hK];rcases hz with e|e
   ·have:z=0∨z=1:=by omega
    rcases this with rfl|rfl <;> simp
   ·have:=o.lv z e;rw[lev_in o e]at hlz;refine List.mem_append.2 (.inr (List.mem_filter.2 ⟨e,?_⟩));rw[decide_eq_true_eq];omega
  have l1:(M.nd h).1=M.n-2:=by omega
  refine List.mem_flatMap.2 ⟨_,c _ (o.lo h hm).1 (o.lo h hm).2,List.mem_map.2 ⟨_,c _ (o.hi h hm).1 (o.hi h hm).2,?_⟩⟩;exact Prod.ext l1.symm rfl
 have hlen:(K.flatMap fun a=>K.map fun b=>(M.n-2,a,b)).length=K.length*K.length:=by
  rw[List.length_flatMap];simp[List.map_const',List.sum_replicate_nat]
 rw[hlen]at this;have h16:K.length*K.length≤4*4:=Nat.mul_le_mul hk hk;simp at this;omega
theorem len_le (o:M.Ok):M.hs.length≤M.up+18:=by
 have h1:=at_lowest o;have h2:=at_second o;have key:∀l:List Nat,(∀h∈l,(M.nd h).1<M.n)→l.length≤(l.filter fun h=>decide ((M.nd h).1+2<M.n)).length+(l.filter fun h=>decide ((M.nd h).1+2=M.n)).length+(l.filter fun h=>decide ((M.nd h).1+1=M.n)).length:=by
  intro l;induction l with
  | nil=>simp
  | cons x l ih =>
   intro hl;have hx:=hl x (by simp);have:=ih fun h hh=>hl h (by simp[hh])
   simp only[List.filter_cons,List.length_cons];by_cases c1:(M.nd x).1+2<M.n
   ·rw[if_pos (decide_eq_true c1),if_neg (by simp;omega),if_neg (by simp;omega),List.length_cons];omega
   ·by_cases c2:(M.nd x).1+2=M.n
    ·rw[if_neg (by simp;omega),if_pos (decide_eq_true c2),if_neg (by simp;omega),List.length_cons];omega
    ·have c3:(M.nd x).1+1=M.n:=by omega
     rw[if_neg (by simp;omega),if_neg (by simp;omega),if_pos (decide_eq_true c3),List.length_cons];omega
 have:=key M.hs o.lv;unfold up;omega
theorem Adds.up {x:Nat}{d:Nd}(a:M.Adds x d M') (o':M'.Ok):M'.up≤M.up+if d.1+2<M.n then 1 else 0:=by
 unfold Mdl.up;have hn:(M'.hs.filter fun h=>decide ((M'.nd h).1+2<M'.n)).Nodup:=o'.nodup.filter _;by_cases c:d.1+2<M.n
 ·rw[if_pos c];have:=nodup_le _ (x :: M.hs.filter fun h=>decide ((M.nd h).1+2<M.n)) hn fun h hh=>by
   obtain⟨hm,hl⟩:=List.mem_filter.1 hh;have hl:=of_decide_eq_true hl;rcases(a.mem h).1 hm with e|e
   ·simp[e]
   ·rw[(a.grew.keep h e).2,a.n]at hl;exact List.mem_cons.2 (.inr (List.mem_filter.2 ⟨e,by rw[decide_eq_true_eq];exact hl⟩))
  simpa using this
 ·rw[if_neg c];refine nodup_le _ _ hn fun h hh=>?_
  obtain⟨hm,hl⟩:=List.mem_filter.1 hh;have hl:=of_decide_eq_true hl;rcases(a.mem h).1 hm with e|e
  ·rw[e,a.at.2,a.n]at hl;exact absurd hl c
  ·rw[(a.grew.keep h e).2,a.n]at hl;exact List.mem_filter.2 ⟨e,by rw[decide_eq_true_eq];exact hl⟩
end Mdl
def Eqt (F G:Nat→Bool):Prop:=∀x,x<256→F x=G x
theorem fixAt_all : ((List.range 256).all fun x=>(List.range 8).all fun v=>[true,false].all fun b=>decide (fixAt v b x<256) && (List.range 8).all fun j=>(fixAt v b x).testBit j == (if j=v then b else x.testBit j))=true:=by kernel_rfl
theorem fixAt_bits {x v:Nat}(hx:x<256) (hv:v<8) (b:Bool):fixAt v b x<256∧(fixAt v b x).testBit=Mdl.setA x.testBit v b:=by
 have h1:=List.all_eq_true.1 fixAt_all x (List.mem_range.2 hx);have h2:=List.all_eq_true.1 h1 v (List.mem_range.2 hv);have h3:=List.all_eq_true.1 h2 b (by cases b <;> simp);rw[Bool.and_eq_true,decide_eq_true_eq]at h3;refine⟨h3.1,funext fun j=>?_⟩;unfold Mdl.setA;by_cases hj:j<8
 ·have:=List.all_eq_true.1 h3.2 j (List.mem_range.2 hj);simpa using this
 ·rw[if_neg (by omega),Nat.testBit_lt_two_pow (Nat.lt_of_lt_of_le h3.1 (Nat.pow_le_pow_right (n:=2) (by omega) (show 8≤j by omega))),Nat.testBit_lt_two_pow (Nat.lt_of_lt_of_le hx (Nat.pow_le_pow_right (n:=2) (by omega) (show 8≤j by omega)))]
theorem fixAt_same {x v:Nat}(hx:x<256) (hv:v<8):fixAt v (x.testBit v) x=x:=by
 apply Nat.eq_of_testBit_eq;intro j;rw[(fixAt_bits hx hv _).2];unfold Mdl.setA;by_cases e:j=v
 ·rw[if_pos e,e]
 ·rw[if_neg e]
def Dep (M:Mdl) (k:Nat) (F:Nat→Bool):Prop:=∀x y,x<256→y<256→(∀j,k≤j→j<M.n→x.testBit (M.v j)=y.testBit (M.v j))→F x=F y
theorem Dep.fix {M:Mdl}(o:M.Ok){k:Nat}{F:Nat→Bool}(h:Dep M k F) (hk:k<M.n) (b:Bool):Dep M (k+1) (fixF F (M.v k) b):=fun x y hx hy e=>by
 have hv:M.v k<8:=by have:=o.vlt k hk;have:=o.le8;omega
 have bx:=fixAt_bits hx hv b;have by':=fixAt_bits hy hv b;refine h _ _ bx.1 by'.1 fun j hj hn=>?_
 rw[bx.2,by'.2];unfold Mdl.setA;by_cases c:j=k
 ·rw[c,if_pos rfl,if_pos rfl]
 ·have:M.v j≠M.v k:=fun q=>c (o.vinj j k hn hk q)
  rw[if_neg this,if_neg this];exact e j (by omega) hn
theorem Dep.const {M:Mdl}{F:Nat→Bool}(h:Dep M M.n F):Eqt F (fun _=>F 0):=fun x hx=>h x 0 hx (by omega) fun j h1 h2=>by omega
theorem Mdl.join {M M':Mdl}{x:Nat}{l a b:Nat}{F:Nat→Bool}(ad:M.Adds x (l,a,b) M') (o:M.Ok) (o':M'.Ok) (f:M.Fits (l,a,b)) (h0:Eqt (M.tbl a) (fixF F (M.v l) false)) (h1:Eqt (M.tbl b) (fixF F (M.v l) true)):Eqt (M'.tbl x) F:=fun y hy=>by
 have hv:M.v l<8:=by have:=o.vlt l f.lv;have:=o.le8;omega
 unfold Mdl.tbl;rw[ad.val o o' f];have e0:=h0 y hy;have e1:=h1 y hy;unfold Mdl.tbl fixF at e0 e1;have es:=fixAt_same hy hv;show (if y.testBit (M.v l)=true then M.val b y.testBit else M.val a y.testBit)=F y;cases hb:y.testBit (M.v l) with
 | true=>rw[hb]at es;rw[if_pos rfl,e1,es]
 | false=>rw[hb]at es;rw[if_neg (by simp),e0,es]
theorem Mdl.joined {M:Mdl}{x:Nat}{F:Nat→Bool}(o:M.Ok) (hx:x∈M.hs) (h0:Eqt (M.tbl (M.nd x).2.1) (fixF F (M.v (M.nd x).1) false)) (h1:Eqt (M.tbl (M.nd x).2.2) (fixF F (M.v (M.nd x).1) true)):Eqt (M.tbl x) F:=fun y hy=>by
 have hv:M.v (M.nd x).1<8:=by have:=o.vlt _ (o.lv x hx);have:=o.le8;omega
 unfold Mdl.tbl;rw[Mdl.val_in o hx];have e0:=h0 y hy;have e1:=h1 y hy;unfold Mdl.tbl fixF at e0 e1;have es:=fixAt_same hy hv;cases hb:y.testBit (M.v (M.nd x).1) with
 | true=>rw[hb]at es;rw[if_pos rfl,e1,es]
 | false=>rw[hb]at es;rw[if_neg (by simp),e0,es]
theorem fix_same {F:Nat→Bool}{v:Nat}(hv:v<8) (h:Eqt (fixF F v false) (fixF F v true)):Eqt (fixF F v false) F:=fun x hx=>by
 have es:=fixAt_same hx hv;cases hb:x.testBit v with
 | false=>rw[hb]at es;show F (fixAt v false x)=F x;rw[es]
 | true=>rw[hb]at es;rw[h x hx];show F (fixAt v true x)=F x;rw[es]
end Go.Proofs.YtnnmdkaoiofabaaGreat
namespace Go.Proofs.YtnnmdkaoiofabaaGreat
open Rf (fixAt fixF)
def Cst (F:Nat→Bool):Prop:=Eqt F (fun _=>false)∨Eqt F (fun _=>true)
def Subs (v:Nat→Nat):Nat→Nat→(Nat→Bool)→(Nat→Bool)→Prop
 | 0,_,_,_=>False
 | d+1,k,F,G=>¬Cst F∧((Eqt (fixF F (v k) false) (fixF F (v k) true)∧Subs v d (k+1) (fixF F (v k) false) G) ∨
   (¬Eqt (fixF F (v k) false) (fixF F (v k) true)∧(Eqt F G∨Subs v d (k+1) (fixF F (v k) false) G∨Subs v d (k+1) (fixF F (v k) true) G)))
def Has (M:Mdl) (G:Nat→Bool):Prop:=∃h∈M.hs,Eqt (M.tbl h) G
theorem Eqt.refl (F:Nat→Bool):Eqt F F:=fun _ _=>rfl
theorem Eqt.symm {F G:Nat→Bool}(h:Eqt F G):Eqt G F:=fun x hx=>(h x hx).symm
theorem Eqt.trans {F G H:Nat→Bool}(h:Eqt F G) (k:Eqt G H):Eqt F H:=fun x hx=>(h x hx).trans (k x hx)
section
variable {M M':Mdl}
theorem Has.grew (g:Mdl.Grew M M') (o:M.Ok){G:Nat→Bool}(h:Has M G):Has M' G:=by
 obtain⟨x,hx,e⟩:=h;exact⟨x,(g.keep x hx).1,fun y hy=>(g.tbl o (.inr hx) y).trans (e y hy)⟩
theorem Has.adds {x l a b:Nat}{F:Nat→Bool}(ad:M.Adds x (l,a,b) M') (o:M.Ok) (e:Eqt (M'.tbl x) F) (G:Nat→Bool):Has M' G↔Has M G∨Eqt F G:=by
 constructor
 ·rintro⟨h,hm,q⟩;rcases(ad.mem h).1 hm with rfl|hm
  ·exact .inr (e.symm.trans q)
  ·exact .inl ⟨h,hm,fun y hy=>(ad.grew.tbl o (.inr hm) y).symm.trans (q y hy)⟩
 ·rintro(h|h)
  ·exact h.grew ad.grew o
  ·exact⟨x,ad.at.1,e.trans h⟩
theorem Has.there {x:Nat}{F:Nat→Bool}(hx:x∈M.hs) (e:Eqt (M.tbl x) F) (G:Nat→Bool):Has M G↔Has M G∨Eqt F G:=
 ⟨.inl,fun h=>h.elim id fun q=>⟨x,hx,e.trans q⟩⟩
end
structure MadeIs (M:Mdl) (k:Nat) (F:Nat→Bool) (h:Nat) (M':Mdl):Prop where
 grew:Mdl.Grew M M'
 node:M'.isNode h
 lev:k≤M'.lev h
 tbl:Eqt (M'.tbl h) F
 up:M'.up≤M.up+(2^(M.n-2-k)-1)
 subs:∀G,Has M' G↔Has M G∨Subs M.v (M.n-k) k F G
theorem MadeIs.const {M:Mdl}{k:Nat}{F:Nat→Bool}(hk:k≤M.n) (h:Nat) (h2:h<2) (e:Eqt F (fun _=>decide (h=1))):MadeIs M k F h M:=by
 refine⟨Mdl.Grew.refl M,.inl h2,by rw[Mdl.lev_const h2];exact hk,fun x hx=>?_,by omega,fun G=>⟨.inl,fun q=>q.elim id fun q=>?_⟩⟩
 ·unfold Mdl.tbl;rw[Mdl.val_const h2,e x hx]
 ·exfalso;have c:Cst F:=by
   by_cases h1:h=1
   ·exact .inr fun x hx=>by rw[e x hx];simp[h1]
   ·exact .inl fun x hx=>by rw[e x hx];simp[h1]
  cases hd:M.n-k with
  | zero=>rw[hd]at q;exact q
  | succ d=>rw[hd]at q;exact q.1 c
theorem two_pow_pos' (n:Nat):1≤2^n:=Nat.one_le_two_pow
theorem MadeIs.skip {M M':Mdl}{k h:Nat}{F:Nat→Bool}(o:M.Ok) (hk:k<M.n) (nc:¬Cst F) (e:Eqt (fixF F (M.v k) false) (fixF F (M.v k) true)) (m:MadeIs M (k+1) (fixF F (M.v k) false) h M'):MadeIs M k F h M':=by
 have hv:M.v k<8:=by have:=o.vlt k hk;have:=o.le8;omega
 have up:=m.up;have p:(2:Nat)^(M.n-2-(k+1))≤2^(M.n-2-k):=Nat.pow_le_pow_right (by omega) (by omega);refine⟨m.grew,m.node,by have:=m.lev;omega,m.tbl.trans (fix_same hv e),by omega,fun G=>?_⟩;rw[m.subs G];have hd:M.n-k=(M.n-(k+1))+1:=by omega
 rw[hd];constructor
 ·rintro(q|q)
  ·exact .inl q
  ·exact .inr ⟨nc,.inl ⟨e,q⟩⟩
 ·rintro(q|⟨_,⟨_,q⟩|⟨q,_⟩⟩)
  ·exact .inl q
  ·exact .inr q
  ·exact absurd e q
theorem MadeIs.node2 {M M1 M2 M3:Mdl}{k a b x:Nat}{F:Nat→Bool}(hk:k<M.n) (nc:¬Cst F) (ne:¬Eqt (fixF F (M.v k) false) (fixF F (M.v k) true)) (m1:MadeIs M (k+1) (fixF F (M.v k) false) a M1) (m2:MadeIs M1 (k+1) (fixF F (M.v k) true) b M2) (g:Mdl.Grew M2 M3) (xn:M3.isNode x) (xl:k≤M3.lev x) (xt:Eqt (M3.tbl x) F) (up:M3.up≤M2.up+if k+2<M.n then 1 else 0) (hs:∀G,Has M3 G↔Has M2 G∨Eqt F G):MadeIs M k F x M3:=by
 have u1:=m1.up;have u2:=m2.up;have n1:=m1.grew.n;have v1:=m1.grew.v;rw[n1]at u2;refine⟨(m1.grew.trans m2.grew).trans g,xn,xl,xt,?_,fun G=>?_⟩
 ·have p1:=two_pow_pos' (M.n-2-(k+1));by_cases c:k+2<M.n
  ·rw[if_pos c]at up
   have:(2:Nat)^(M.n-2-k)=2*2^(M.n-2-(k+1)):=by
    rw[show M.n-2-k=(M.n-2-(k+1))+1 by omega,Nat.pow_succ];omega
   omega
  ·rw[if_neg c]at up;have e0:M.n-2-(k+1)=0:=by omega
   have e1:M.n-2-k=0:=by omega
   rw[e0]at u1 u2;rw[e1];simp at u1 u2 ⊢;omega
 ·rw[hs G,m2.subs G,m1.subs G,n1,v1];have hd:M.n-k=(M.n-(k+1))+1:=by omega
  rw[hd];constructor
  ·rintro(((q|q)|q)|q)
   ·exact .inl q
   ·exact .inr ⟨nc,.inr ⟨ne,.inr (.inl q)⟩⟩
   ·exact .inr ⟨nc,.inr ⟨ne,.inr (.inr q)⟩⟩
   ·exact .inr ⟨nc,.inr ⟨ne,.inl q⟩⟩
  ·rintro(q|⟨_,⟨q,_⟩|⟨_,q|q|q⟩⟩)
   ·exact .inl (.inl (.inl q))
   ·exact absurd q ne
   ·exact .inr q
   ·exact .inl (.inl (.inr q))
   ·exact .inl (.inr q)
section
variable {M M8 M9 M3:Mdl}{k a c x:Nat}{F:Nat→Bool}
theorem MadeIs.fits (hk:k<M.n) (o8:M8.Ok) (ne:¬Eqt (fixF F (M.v k) false) (fixF F (M.v k) true)) (m8:MadeIs M (k+1) (fixF F (M.v k) false) a M8) (m9:MadeIs M8 (k+1) (fixF F (M.v k) true) c M9):M9.Fits (k,a,c):=by
 have n9:M9.n=M.n:=m9.grew.n.trans m8.grew.n;refine⟨by show k<M9.n;omega,fun e=>ne ?_,⟨m9.grew.isNode m8.node,?_⟩,⟨m9.node,?_⟩⟩
 ·have e:a=c:=e;intro y hy;rw[← m8.tbl y hy,← m9.tbl y hy,← e,m9.grew.tbl o8 m8.node]
 ·show k<M9.lev a;rw[m9.grew.lev m8.node];have:=m8.lev;omega
 ·show k<M9.lev c;have:=m9.lev;omega
theorem MadeIs.join (hk:k<M.n) (o8:M8.Ok) (o9:M9.Ok) (o3:M3.Ok) (nc:¬Cst F) (ne:¬Eqt (fixF F (M.v k) false) (fixF F (M.v k) true)) (m8:MadeIs M (k+1) (fixF F (M.v k) false) a M8) (m9:MadeIs M8 (k+1) (fixF F (M.v k) true) c M9) (q:(x∈M9.hs∧M9.nd x=(k,a,c)∧M3=M9)∨M9.Adds x (k,a,c) M3):MadeIs M k F x M3:=by
 have f:=m8.fits hk o8 ne m9;have n9:M9.n=M.n:=m9.grew.n.trans m8.grew.n;have v9:M9.v=M.v:=m9.grew.v.trans m8.grew.v;have ta:Eqt (M9.tbl a) (fixF F (M9.v k) false):=fun y hy=>by rw[v9,m9.grew.tbl o8 m8.node];exact m8.tbl y hy
 have tc:Eqt (M9.tbl c) (fixF F (M9.v k) true):=fun y hy=>by rw[v9];exact m9.tbl y hy
 rcases q with ⟨xm,xe,rfl⟩|ad
 ·have xt:Eqt (M3.tbl x) F:=Mdl.joined o9 xm (by rw[xe];exact ta) (by rw[xe];exact tc);refine MadeIs.node2 hk nc ne m8 m9 (Mdl.Grew.refl _) (.inr xm) (by rw[Mdl.lev_in o9 xm,xe];exact Nat.le_refl _) xt (by omega) (Has.there xm xt)
 ·have xt:Eqt (M3.tbl x) F:=Mdl.join ad o9 o3 f ta tc;refine MadeIs.node2 hk nc ne m8 m9 ad.grew (.inr ad.at.1) (by rw[Mdl.lev_in o3 ad.at.1,ad.at.2];exact Nat.le_refl _) xt (by have:=ad.up o3;rw[n9]at this;exact this) (Has.adds ad o9 xt)
end
end Go.Proofs.YtnnmdkaoiofabaaGreat
namespace Go.Proofs.YtnnmdkaoiofabaaGreat
open Rf (fixAt fixF fixI same hasUpto addN addN_skip addN_new dedup isC allStep nextStep lvA lvX prt)
def InT (ts:List (Nat→Bool)) (G:Nat→Bool):Prop:=∃F∈ts,Eqt F G
def PW (ts:List (Nat→Bool)):Prop:=ts.Pairwise fun F G=>¬Eqt F G
def nth (ts:List (Nat→Bool)) (i:Nat):Nat→Bool:=ts.getD i fun _=>false
theorem nth_mem {ts:List (Nat→Bool)}{i:Nat}(h:i<ts.length):nth ts i∈ts:=by
 unfold nth;rw[List.getD_eq_getElem?_getD,List.getElem?_eq_getElem h,Option.getD_some];exact List.getElem_mem h
theorem mem_nth {ts:List (Nat→Bool)}{F:Nat→Bool}(h:F∈ts):∃i,i<ts.length∧nth ts i=F:=by
 obtain⟨i,hi,e⟩:=List.getElem_of_mem h;refine⟨i,hi,?_⟩;unfold nth;rw[List.getD_eq_getElem?_getD,List.getElem?_eq_getElem hi,Option.getD_some,e]
theorem has_upto (T:Nat→Nat→Bool) (F:Nat→Bool):∀n,hasUpto T F n=true↔∃i,i<n∧Eqt (T i) F
 | 0=>by simp[hasUpto]
 | n+1=>by
  rw[hasUpto,Bool.or_eq_true,has_upto T F n,Rf.same_iff];constructor
  ·rintro(⟨i,hi,e⟩|e)
   ·exact⟨i,by omega,e⟩
   ·exact⟨n,by omega,e⟩
  ·rintro⟨i,hi,e⟩;by_cases q:i=n
   ·subst q;exact .inr e
   ·exact .inl ⟨i,by omega,e⟩
theorem has_iff (ts:List (Nat→Bool)) (F:Nat→Bool):hasUpto (fun i=>ts.getD i fun _=>false) F ts.length=true↔InT ts F:=by
 rw[has_upto];constructor
 ·rintro⟨i,hi,e⟩;exact⟨_,nth_mem hi,e⟩
 ·rintro⟨G,hG,e⟩;obtain⟨i,hi,rfl⟩:=mem_nth hG;exact⟨i,hi,e⟩
theorem in_addN (ts:List (Nat→Bool)) (F G:Nat→Bool):InT (addN ts F) G↔InT ts G∨Eqt F G:=by
 cases h:hasUpto (fun i=>ts.getD i fun _=>false) F ts.length with
 | true =>
  rw[addN_skip h];obtain⟨F',h1,h2⟩:=(has_iff ts F).1 h;exact⟨.inl,fun q=>q.elim id fun e=>⟨F',h1,h2.trans e⟩⟩
 | false =>
  rw[addN_new h];constructor
  ·rintro⟨H,hH,e⟩;rcases List.mem_append.1 hH with q|q
   ·exact .inl ⟨H,q,e⟩
   ·rw[List.mem_singleton]at q;subst q;exact .inr e
  ·rintro(⟨H,hH,e⟩|e)
   ·exact⟨H,List.mem_append.2 (.inl hH),e⟩
   ·exact⟨F,List.mem_append.2 (.inr (List.mem_singleton.2 rfl)),e⟩
theorem pw_addN {ts:List (Nat→Bool)}(h:PW ts) (F:Nat→Bool):PW (addN ts F):=by
 cases q:hasUpto (fun i=>ts.getD i fun _=>false) F ts.length with
 | true=>rw[addN_skip q];exact h
 | false =>
  rw[addN_new q];refine List.pairwise_append.2 ⟨h,by simp,fun a ha b hb e=>?_⟩;rw[List.mem_singleton]at hb;subst hb;have:=(has_iff ts b).2 ⟨a,ha,e⟩;rw[q]at this;cases this
theorem isC_iff (F:Nat→Bool):isC F=true↔Cst F:=by
 unfold isC Cst;rw[Bool.or_eq_true,Rf.same_iff,Rf.same_iff];rfl
theorem cst_congr {F G:Nat→Bool}(e:Eqt F G):Cst F↔Cst G:=by
 constructor
 ·rintro(h|h)
  ·exact .inl (e.symm.trans h)
  ·exact .inr (e.symm.trans h)
 ·rintro(h|h)
  ·exact .inl (e.trans h)
  ·exact .inr (e.trans h)
theorem in_lvA (a0 ts:List (Nat→Bool)) (G:Nat→Bool):∀i,InT (lvA a0 ts i) G↔InT a0 G∨∃j,j<i∧¬Cst (nth ts j)∧Eqt (nth ts j) G
 | 0=>by
  constructor
  ·exact .inl
  ·rintro(h|⟨j,hj,_⟩)
   ·exact h
   ·omega
 | i+1=>by
  have ih:=in_lvA a0 ts G i;have e:lvA a0 ts (i+1)=allStep (lvA a0 ts i) (nth ts i):=rfl;rw[e,allStep];cases c:isC (nth ts i) with
  | true =>
   have hc:=(isC_iff _).1 c;rw[if_pos rfl,ih];constructor
   ·rintro(h|⟨j,hj,q⟩)
    ·exact .inl h
    ·exact .inr ⟨j,by omega,q⟩
   ·rintro(h|⟨j,hj,q1,q2⟩)
    ·exact .inl h
    ·by_cases d:j=i
     ·subst d;exact absurd hc q1
     ·exact .inr ⟨j,by omega,q1,q2⟩
  | false =>
   have hc:¬Cst (nth ts i):=fun q=>by rw[(isC_iff _).2 q]at c;cases c
   rw[if_neg (by simp),in_addN,ih];constructor
   ·rintro((h|⟨j,hj,q⟩)|q)
    ·exact .inl h
    ·exact .inr ⟨j,by omega,q⟩
    ·exact .inr ⟨i,by omega,hc,q⟩
   ·rintro(h|⟨j,hj,q1,q2⟩)
    ·exact .inl (.inl h)
    ·by_cases d:j=i
     ·subst d;exact .inr q2
     ·exact .inl (.inr ⟨j,by omega,q1,q2⟩)
theorem pw_lvA {a0:List (Nat→Bool)}(h:PW a0) (ts:List (Nat→Bool)):∀i,PW (lvA a0 ts i)
 | 0=>h
 | i+1=>by
  have ih:=pw_lvA h ts i;rw[lvA,allStep];split
  ·exact ih
  ·exact pw_addN ih _
theorem in_lvX (v:Int) (ts:List (Nat→Bool)) (G:Nat→Bool):∀i,InT (lvX false v ts i) G↔∃j,j<i∧(Eqt (fixI (nth ts j) v false) G∨Eqt (fixI (nth ts j) v true) G)
 | 0=>by
  constructor
  ·rintro⟨F,h,_⟩;cases h
  ·rintro⟨j,hj,_⟩;omega
 | i+1=>by
  have ih:=in_lvX v ts G i;have e:lvX false v ts (i+1)=addN (addN (lvX false v ts i) (fixI (nth ts i) v false)) (fixI (nth ts i) v true):=rfl;rw[e,in_addN,in_addN,ih];constructor
  ·rintro((⟨j,hj,q⟩|q)|q)
   ·exact⟨j,by omega,q⟩
   ·exact⟨i,by omega,.inl q⟩
   ·exact⟨i,by omega,.inr q⟩
  ·rintro⟨j,hj,q⟩;by_cases d:j=i
   ·subst d;exact q.elim (fun q=>.inl (.inr q)) .inr
   ·exact .inl (.inl ⟨j,by omega,q⟩)
theorem fixF_congr {F G:Nat→Bool}(e:Eqt F G){v:Nat}(hv:v<8) (b:Bool):Eqt (fixF F v b) (fixF G v b):=fun _ hx=>e _ (fixAt_bits hx hv b).1
theorem fixI_congr {F G:Nat→Bool}(e:Eqt F G) (v:Int) (b:Bool):Eqt (fixI F v b) (fixI G v b):=by
 unfold fixI;split
 ·exact fixF_congr e (by omega) b
 ·exact e
theorem fixI_nat (F:Nat→Bool){v:Nat}(hv:v<8) (b:Bool):fixI F (v:Int) b=fixF F v b:=by
 unfold fixI;rw[if_pos (by omega)];rfl
def Lv (V:Nat→Int) (ts0:List (Nat→Bool)):Nat→(Nat→Bool)→Prop
 | 0,G=>InT ts0 G
 | k+1,G=>∃H,Lv V ts0 k H∧(Eqt (fixI H (V k) false) G∨Eqt (fixI H (V k) true) G)
theorem lv_prt (V:Nat→Int) (n:Nat) (ts0:List (Nat→Bool)):∀k,k≤n→k≤8→∀G,InT (prt V n ts0 k).2 G↔Lv V ts0 k G
 | 0,_,_,G=>Iff.rfl
 | k+1,h1,h2,G=>by
  have ih:=lv_prt V n ts0 k (by omega) (by omega);have e:(prt V n ts0 (k+1)).2=lvX false (V k) (prt V n ts0 k).2 (prt V n ts0 k).2.length:=by
   rw[prt]
   have:(decide (k=n) || decide (k=8))=false:=by
    rw[decide_eq_false (by omega),decide_eq_false (by omega)];rfl
   rw[this]
  rw[e,in_lvX];constructor
  ·rintro⟨j,hj,q⟩;exact⟨_,(ih _).1 ⟨_,nth_mem hj,Eqt.refl _⟩,q⟩
  ·rintro⟨H,hH,q⟩;obtain⟨F,hF,eF⟩:=(ih H).2 hH;obtain⟨j,hj,rfl⟩:=mem_nth hF;exact⟨j,hj,q.imp (fun q=>(fixI_congr eF _ _).trans q) fun q=>(fixI_congr eF _ _).trans q⟩
theorem in_prt (V:Nat→Int) (n:Nat) (ts0:List (Nat→Bool)):∀k,k≤n+1→k≤9→∀G,InT (prt V n ts0 k).1 G↔∃j,j<k∧Lv V ts0 j G∧¬Cst G
 | 0,_,_,G=>by
  constructor
  ·rintro⟨F,h,_⟩;cases h
  ·rintro⟨j,hj,_⟩;omega
 | k+1,h1,h2,G=>by
  have ih:=in_prt V n ts0 k (by omega) (by omega) G;have lv:=lv_prt V n ts0 k (by omega) (by omega) G;have e:(prt V n ts0 (k+1)).1=lvA (prt V n ts0 k).1 (prt V n ts0 k).2 (prt V n ts0 k).2.length:=rfl;rw[e,in_lvA,ih];constructor
  ·rintro(⟨j,hj,q⟩|⟨j,hj,q1,q2⟩)
   ·exact⟨j,by omega,q⟩
   ·exact⟨k,by omega,lv.1 ⟨_,nth_mem hj,q2⟩,fun c=>q1 ((cst_congr q2).2 c)⟩
  ·rintro⟨j,hj,q1,q2⟩;by_cases d:j=k
   ·subst d;obtain⟨F,hF,eF⟩:=lv.2 q1;obtain⟨i,hi,rfl⟩:=mem_nth hF;exact .inr ⟨i,hi,fun c=>q2 ((cst_congr eF).1 c),eF⟩
   ·exact .inl ⟨j,by omega,q1,q2⟩
theorem pw_prt (V:Nat→Int) (n:Nat) (ts0:List (Nat→Bool)):∀k,PW (prt V n ts0 k).1
 | 0=>List.Pairwise.nil
 | k+1=>pw_lvA (pw_prt V n ts0 k) _ _
def Desc (v:Nat→Nat):Nat→Nat→(Nat→Bool)→(Nat→Bool)→Prop
 | 0,_,F,G=>Eqt F G
 | j+1,k,F,G=>Desc v j (k+1) (fixF F (v k) false) G∨Desc v j (k+1) (fixF F (v k) true) G
theorem desc_from {v:Nat→Nat}:∀{j k:Nat}{F F' G:Nat→Bool},(∀i,i<j→v (k+i)<8)→Desc v j k F G→Eqt F F'→Desc v j k F' G
 | 0,_,_,_,_,_,h,e=>e.symm.trans h
 | j+1,k,_,_,_,hv,h,e=>by
  have h0:v k<8:=hv 0 (by omega);have h1:∀i,i<j→v (k+1+i)<8:=fun i hi=>by have:=hv (i+1) (by omega);rwa [show k+1+i=k+(i+1) by omega]
  exact h.imp (fun h=>desc_from h1 h (fixF_congr e h0 false)) fun h=>desc_from h1 h (fixF_congr e h0 true)
theorem cst_fix {F:Nat→Bool}(h:Cst F){v:Nat}(hv:v<8) (b:Bool):Cst (fixF F v b):=h.imp (fun h=>fixF_congr h hv b) fun h=>fixF_congr h hv b
theorem desc_cst {v:Nat→Nat}:∀{j k:Nat}{F G:Nat→Bool},(∀i,i<j→v (k+i)<8)→Cst F→Desc v j k F G→Cst G
 | 0,_,_,_,_,c,h=>(cst_congr h).1 c
 | j+1,k,_,_,hv,c,h=>by
  have h0:v k<8:=hv 0 (by omega);have h1:∀i,i<j→v (k+1+i)<8:=fun i hi=>by have:=hv (i+1) (by omega);rwa [show k+1+i=k+(i+1) by omega]
  exact h.elim (fun h=>desc_cst h1 (cst_fix c h0 false) h) fun h=>desc_cst h1 (cst_fix c h0 true) h
theorem desc_last {v:Nat→Nat}:∀{j k:Nat}{F G:Nat→Bool},(∀i,i<j+1→v (k+i)<8)→(Desc v (j+1) k F G↔∃H,Desc v j k F H∧(Eqt (fixF H (v (k+j)) false) G∨Eqt (fixF H (v (k+j)) true) G))
 | 0,k,F,G,hv=>by
  have h0:v k<8:=hv 0 (by omega);constructor
  ·intro h;exact⟨F,Eqt.refl F,h⟩
  ·rintro⟨H,hH,q⟩;exact q.imp (fun q=>(fixF_congr hH h0 false).trans q) fun q=>(fixF_congr hH h0 true).trans q
 | j+1,k,F,G,hv=>by
  have h1:∀i,i<j+1→v (k+1+i)<8:=fun i hi=>by have:=hv (i+1) (by omega);rwa [show k+1+i=k+(i+1) by omega]
  have a:=desc_last (j:=j) (k:=k+1) (F:=fixF F (v k) false) (G:=G) h1;have b:=desc_last (j:=j) (k:=k+1) (F:=fixF F (v k) true) (G:=G) h1;rw[show k+1+j=k+(j+1) by omega]at a b;show (Desc v (j+1) (k+1) (fixF F (v k) false) G∨Desc v (j+1) (k+1) (fixF F (v k) true) G)↔_;rw[a,b];constructor
  ·rintro(⟨H,h,q⟩|⟨H,h,q⟩)
   ·exact⟨H,.inl h,q⟩
   ·exact⟨H,.inr h,q⟩
  ·rintro⟨H,h|h,q⟩
   ·exact .inl ⟨H,h,q⟩
   ·exact .inr ⟨H,h,q⟩
theorem subs_desc {M:Mdl}(o:M.Ok):∀(d k:Nat) (F G:Nat→Bool),k+d=M.n→Dep M k F→(Subs M.v d k F G↔∃j,j≤d∧Desc M.v j k F G∧¬Cst G)
 | 0,k,F,G,hk,dep=>by
  have c:Cst F:=by
   rw[show k=M.n by omega]at dep;have:=dep.const;cases q:F 0 with
   | false=>rw[q]at this;exact .inl this
   | true=>rw[q]at this;exact .inr this
  constructor
  ·intro h;cases h
  ·rintro⟨j,hj,h,nc⟩;obtain rfl:j=0:=by omega
   exact absurd ((cst_congr h).1 c) nc
 | d+1,k,F,G,hk,dep=>by
  have hkn:k<M.n:=by omega
  have v8:∀i,i<M.n→M.v i<8:=fun i hi=>by have:=o.vlt i hi;have:=o.le8;omega
  have hv:=v8 k hkn;have ihX:=subs_desc o d (k+1) (fixF F (M.v k) false) G (by omega) (dep.fix o hkn false);have ihY:=subs_desc o d (k+1) (fixF F (M.v k) true) G (by omega) (dep.fix o hkn true);have vs:∀j,j≤d→∀i,i<j→M.v (k+1+i)<8:=fun j hj i hi=>v8 _ (by omega)
  show (¬Cst F∧_)↔_;rw[ihX,ihY];constructor
  ·rintro⟨nc,⟨_,j,hj,h,q⟩|⟨_,e|⟨j,hj,h,q⟩|⟨j,hj,h,q⟩⟩⟩
   ·exact⟨j+1,by omega,.inl h,q⟩
   ·exact⟨0,by omega,e,fun c=>nc ((cst_congr e).2 c)⟩
   ·exact⟨j+1,by omega,.inl h,q⟩
   ·exact⟨j+1,by omega,.inr h,q⟩
  ·rintro⟨j,hj,h,q⟩;have nc:¬Cst F:=fun c=>q (desc_cst (fun i hi=>v8 _ (by omega)) c h)
   refine⟨nc,?_⟩;by_cases e:Eqt (fixF F (M.v k) false) (fixF F (M.v k) true)
   ·refine .inl ⟨e,?_⟩;match j,h with
    | 0,h=>exact⟨0,by omega,(fix_same hv e).trans h,q⟩
    | j+1,.inl h=>exact⟨j,by omega,h,q⟩
    | j+1,.inr h=>exact⟨j,by omega,desc_from (vs j (by omega)) h e.symm,q⟩
   ·refine .inr ⟨e,?_⟩;match j,h with
    | 0,h=>exact .inl h
    | j+1,.inl h=>exact .inr (.inl ⟨j,by omega,h,q⟩)
    | j+1,.inr h=>exact .inr (.inr ⟨j,by omega,h,q⟩)
theorem lv_desc {M:Mdl}(o:M.Ok) (ts0:List (Nat→Bool)):∀(j:Nat),j≤M.n→∀G,Lv (fun i=>(M.v i:Int)) ts0 j G↔∃F∈ts0,Desc M.v j 0 F G
 | 0,_,G=>Iff.rfl
 | j+1,hj,G=>by
  have v8:∀i,i<M.n→M.v i<8:=fun i hi=>by have:=o.vlt i hi;have:=o.le8;omega
  have ih:=lv_desc o ts0 j (by omega);have hv:∀i,i<j+1→M.v (0+i)<8:=fun i hi=>v8 _ (by omega)
  constructor
  ·rintro⟨H,hH,q⟩;obtain⟨F,hF,h⟩:=(ih H).1 hH;refine⟨F,hF,(desc_last hv).2 ⟨H,h,?_⟩⟩;rw[Nat.zero_add,← fixI_nat H (v8 j (by omega)),← fixI_nat H (v8 j (by omega))];exact q
  ·rintro⟨F,hF,h⟩;obtain⟨H,h1,q⟩:=(desc_last hv).1 h;rw[Nat.zero_add,← fixI_nat H (v8 j (by omega)),← fixI_nat H (v8 j (by omega))]at q;exact⟨H,(ih H).2 ⟨F,hF,h1⟩,q⟩
def encT (F:Nat→Bool):List Bool:=(List.range 256).map F
theorem encT_iff (F G:Nat→Bool):encT F=encT G↔Eqt F G:=by
 unfold encT;rw[List.map_inj_left];exact⟨fun h x hx=>h x (List.mem_range.2 hx),fun h x hx=>h x (List.mem_range.1 hx)⟩
end Go.Proofs.YtnnmdkaoiofabaaGreat
namespace Go.Proofs.YtnnmdkaoiofabaaGreat
open Go Go.RowKit
theorem getD_mem {l:List Nat}{i:Nat}(h:i<l.length):l.getD i 0∈l:=by
 rw[List.getD_eq_getElem?_getD,List.getElem?_eq_getElem h];exact List.getElem_mem h
theorem sorted_getD {l:List Nat}(s:l.Pairwise (· < ·)){i j:Nat}(h:j<l.length) (hij:i<j):l.getD i 0<l.getD j 0:=by
 rw[List.getD_eq_getElem?_getD,List.getD_eq_getElem?_getD,List.getElem?_eq_getElem h,List.getElem?_eq_getElem (by omega)];exact List.pairwise_iff_getElem.1 s i j (by omega) h hij
set_option maxRecDepth 100000 in
set_option maxHeartbeats 2000000 in
theorem once_any {w:World}{S:Nat}{F:Nat→Prop}{M:Mdl}(h:St w S F M) :
  Calls Tryz.prog 24 #[.pointer (some ⟨S,0,none⟩)] w fun e w'=>e = .returned (.bool true)∧Below w.heap.size w w':=by
 have K1:=s_all h;have o:=h.ok;have hlen:=o.len;have hroom:=h.room;obtain⟨L,hL⟩:∃L,M.hs.length=L:=⟨_,rfl⟩
 have hLA:Aside (M.hs.length=L):=hL;rw[hL]at K1 hlen;clear hL;have hlen':(L:Int)≤(M.room:Int):=by omega
 have hd1:decide (M.room<L)=false:=by simpa using hlen
 have hd2:decide ((M.room:Int)<(L:Int))=false:=by simpa using hlen
 go_enter Tryz.func24,Tryz.ntmps24
 go_wp2_with (first
  | (go_at_call 62;refine K1.mono ?_;clear K1;rintro e w0 ⟨ad,cap,rfl,own0,b0⟩;have h0:=h.below b0;have Kz:=s_len h0;rw[hLA.out]at Kz)
  | (go_at_call 22;refine Kz.mono ?_;clear Kz;rintro e w1 ⟨rfl,q,hq⟩;have h1:St w1 S F M:=(by rw[hq];exact h0.drewN q);have own:OwnR 36 w1 w.heap.size ad L cap (fun i=>.int .u32 (M.hs.getD i 0:Nat)):=(by rw[hq];exact own0);have b1:Below w.heap.size w w1:=(by rw[hq];exact⟨b0.os,b0.tape,b0.output,b0.size,b0.block⟩);have Kr:=s_room h1;clear hq h0 own0 b0)
  | (go_at_call 27;refine Kr.mono ?_;clear Kr;rintro e w1 ⟨rfl,rfl⟩))
 have b1A:Aside (Below w.heap.size w w1):=b1;clear b1 h;go_loopg [2,4,5,6,7,8,9] L (fun gk s2 si s5 s6 s7 s8 s9 wr=>∃i:Nat,i+gk=L∧s2 = .bool false∧si = .int .i64 (i:Int)∧wr=w1)
 case atStart=>exact⟨0,by omega,rfl,rfl,rfl⟩
 case round =>
  obtain⟨i,hi,rfl,rfl,rfl⟩:=hrel;obtain⟨go,rfl⟩:∃go,go=gk:=⟨gk,rfl⟩
  have hI:Aside (i+go=L):=hi;clear hi;by_cases hlt:i<L
  ·have hlt':(i:Int)<(L:Int):=by omega
   obtain⟨g,rfl⟩:=own.form (by omega);have row:=own;clear own;obtain⟨x,hx⟩:∃x,M.hs.getD i 0=x:=⟨_,rfl⟩
   have hxA:Aside (M.hs.getD i 0=x):=hx;have cx:=row.cell hlt;rw[hx]at cx;have xm:x∈M.hs:=by rw[← hx];exact getD_mem (by rw[hLA.out];exact hlt)
   have xr:=o.range x xm;obtain⟨la,na,loA⟩:∃la,M.lev (M.nd x).2.1=la∧(M.nd x).1<la:=⟨_,rfl,(o.lo x xm).2⟩
   obtain⟨lb,nb,hiA⟩:∃lb,M.lev (M.nd x).2.2=lb∧(M.nd x).1<lb:=⟨_,rfl,(o.hi x xm).2⟩
   have q1:=Mdl.isNode_lt o (o.lo x xm).1;have q2:=Mdl.isNode_lt o (o.hi x xm).1;have KL:=s_level h1 x (by omega);rw[Mdl.levI_in o xm]at KL;have KA:=s_low h1 x (by omega);rw[Mdl.lowN_in o xm]at KA;have KB:=s_high h1 x (by omega);rw[Mdl.highN_in o xm]at KB;have KI:=s_is h1 x (by omega);rw[Mdl.nodeB_true (show M.isNode x from .inr xm)]at KI;have KIa:=s_is h1 (M.nd x).2.1 (by omega);rw[Mdl.nodeB_true (o.lo x xm).1]at KIa;have KIb:=s_is h1 (M.nd x).2.2 (by omega);rw[Mdl.nodeB_true (o.hi x xm).1]at KIb;have KLa:=s_level h1 (M.nd x).2.1 (by omega);rw[Mdl.levI_node (o.lo x xm).1,na]at KLa
   have KLb:=s_level h1 (M.nd x).2.2 (by omega);rw[Mdl.levI_node (o.hi x xm).1,nb]at KLb;have KV:=s_vars h1;have lvn:=o.lv x xm;have nen:=o.ne x xm;have one:Aside (∀y∈M.hs,y≠x→M.nd y≠M.nd x):=fun y hy hne e=>hne (o.one y hy x xm e)
   have ndA:Aside (M.nd x=((M.nd x).1,(M.nd x).2.1,(M.nd x).2.2)):=rfl;clear hx na nb;generalize (M.nd x).1=lv at KL loA hiA lvn ndA;generalize (M.nd x).2.1=lo at KA KIa KLa nen ndA q1;generalize (M.nd x).2.2=hh at KB KIb KLb nen ndA q2;have e1:¬(x:Int)≤1:=by omega
   have e2:¬(lv:Int)<0:=by omega
   have e3:¬(M.n:Int)≤(lv:Int):=by omega
   have e3':¬M.n≤lv:=by omega
   have e4:¬(lo:Int)=(hh:Int):=by omega
   have e4':((lo:Int) == (hh:Int))=false:=by simpa using e4
   have e5:¬(la:Int)≤(lv:Int):=by omega
   have e5':¬la≤lv:=by omega
   have e6:¬(lb:Int)≤(lv:Int):=by omega
   have e6':¬lb≤lv:=by omega
   by_cases hi0:i=0
   ·have f1:¬(0:Int)<(i:Int):=by omega
    have f1':¬ 0<i:=by omega
    clear hi0
    go_wp2_with (first
     | (go_at_call 63;refine KL.mono ?_;clear KL;rintro e w1 ⟨rfl,rfl⟩)
     | (go_at_call 64;refine KA.mono ?_;clear KA;rintro e w1 ⟨rfl,rfl⟩)
     | (go_at_call 65;refine KB.mono ?_;clear KB;rintro e w1 ⟨rfl,rfl⟩)
     | (go_at_call 25;refine KI.mono ?_;clear KI;rintro e w1 ⟨rfl,rfl⟩)
     | (go_at_call 56;refine KV.mono ?_;clear KV;rintro e w1 ⟨rfl,rfl⟩)
     | (go_at_call 25;refine KIa.mono ?_;clear KIa;rintro e w1 ⟨rfl,rfl⟩)
     | (go_at_call 25;refine KIb.mono ?_;clear KIb;rintro e w1 ⟨rfl,rfl⟩)
     | (go_at_call 63;refine KLa.mono ?_;clear KLa;rintro e w1 ⟨rfl,rfl⟩)
     | (go_at_call 63;refine KLb.mono ?_;clear KLb;rintro e w1 ⟨rfl,rfl⟩))
    go_loopg [2,9] i (fun gj s2 s9 wr=>∃j:Nat,j+gj=i∧s2 = .bool false∧s9 = .int .i64 (j:Int)∧wr=w1)
    case atStart=>exact⟨0,by omega,rfl,rfl,rfl⟩
    case round =>
     obtain⟨j,hj,rfl,rfl,rfl⟩:=hrel;have hJ:Aside (j+gk=i):=hj;clear hj;by_cases hjl:j<i
     ·have hjl':(j:Int)<(i:Int):=by omega
      have hjL:j<L:=by omega
      obtain⟨y,hy⟩:∃y,M.hs.getD j 0=y:=⟨_,rfl⟩
      have cy:=row.cell hjL;rw[hy]at cy;have ym:y∈M.hs:=by rw[← hy];exact getD_mem (by rw[hLA.out];exact hjL)
      have yx:y≠x:=by
       have:=sorted_getD o.sorted (by rw[hLA.out];exact hlt) hjl;rw[hy,hxA.out]at this;omega
      have yr:=o.range y ym;have une:=one.out y ym yx;have JL:=s_level h1 y (by omega);rw[Mdl.levI_in o ym]at JL;have JA:=s_low h1 y (by omega);rw[Mdl.lowN_in o ym]at JA;have JB:=s_high h1 y (by omega);rw[Mdl.highN_in o ym]at JB;rw[ndA.out]at une;have uneA:Aside (¬((M.nd y).1=lv∧(M.nd y).2.1=lo∧(M.nd y).2.2=hh)):=fun e=>une (Prod.ext e.1 (Prod.ext e.2.1 e.2.2))
      clear une hy yx;generalize (M.nd y).1=ly at JL uneA;generalize (M.nd y).2.1=a at JA uneA;generalize (M.nd y).2.2=b at JB uneA;by_cases c1:ly=lv
      ·subst c1;by_cases c2:a=lo
       ·subst c2;have c3:¬b=hh:=fun e=>uneA.out ⟨rfl,rfl,e⟩
        have d3:¬(b:Int)=(hh:Int):=by omega
        have d3':((b:Int) == (hh:Int))=false:=by simpa using d3
        clear c3
        go_wp2_with (first
         | (go_at_call 63;refine JL.mono ?_;clear JL;rintro e w1 ⟨rfl,rfl⟩)
         | (go_at_call 64;refine JA.mono ?_;clear JA;rintro e w1 ⟨rfl,rfl⟩)
         | (go_at_call 65;refine JB.mono ?_;clear JB;rintro e w1 ⟨rfl,rfl⟩))
        go_roundg (gk-1)
        case measure=>have:=hJ.out;omega
        case rel =>
         have hj:=hJ.out;exact⟨j+1,by omega,rfl,by go_num,rfl⟩
       ·have d2:¬(a:Int)=(lo:Int):=by omega
        have d2':((a:Int) == (lo:Int))=false:=by simpa using d2
        clear c2
        go_wp2_with (first
         | (go_at_call 63;refine JL.mono ?_;clear JL;rintro e w1 ⟨rfl,rfl⟩)
         | (go_at_call 64;refine JA.mono ?_;clear JA;rintro e w1 ⟨rfl,rfl⟩)
         | (go_at_call 65;refine JB.mono ?_;clear JB;rintro e w1 ⟨rfl,rfl⟩))
        go_roundg (gk-1)
        case measure=>have:=hJ.out;omega
        case rel =>
         have hj:=hJ.out;exact⟨j+1,by omega,rfl,by go_num,rfl⟩
      ·have d1:¬(ly:Int)=(lv:Int):=by omega
       have d1':((ly:Int) == (lv:Int))=false:=by simpa using d1
       clear c1
       go_wp2_with (first
        | (go_at_call 63;refine JL.mono ?_;clear JL;rintro e w1 ⟨rfl,rfl⟩)
        | (go_at_call 64;refine JA.mono ?_;clear JA;rintro e w1 ⟨rfl,rfl⟩)
        | (go_at_call 65;refine JB.mono ?_;clear JB;rintro e w1 ⟨rfl,rfl⟩))
       go_roundg (gk-1)
       case measure=>have:=hJ.out;omega
       case rel =>
        have hj:=hJ.out;exact⟨j+1,by omega,rfl,by go_num,rfl⟩
     ·obtain rfl:j=i:=by have:=hJ.out;omega
      go_wp2_with fail
      go_roundg (go-1)
      case measure=>have:=hI.out;omega
      case rel =>
       have hi:=hI.out;exact⟨j+1,by omega,rfl,by go_num,rfl⟩
   ·have f1:(0:Int)<(i:Int):=by omega
    have f1':0<i:=by omega
    have c0:=row.cell (show i-1<L by omega);have s0:=sorted_getD o.sorted (by rw[hLA.out];exact hlt) (show i-1<i by omega);rw[hxA.out]at s0;generalize M.hs.getD (i-1) 0=p at c0 s0;have f2:¬(x:Int)≤(p:Int):=by omega
    have f2':¬x≤p:=by omega
    have f3:((i:Int)-1).toNat=i-1:=by omega
    have f4:0≤(i:Int)-1:=by omega
    have f5:(i:Int)-1<(L:Int):=by omega
    clear hi0 s0
    go_wp2_with (first
     | (go_at_call 63;refine KL.mono ?_;clear KL;rintro e w1 ⟨rfl,rfl⟩)
     | (go_at_call 64;refine KA.mono ?_;clear KA;rintro e w1 ⟨rfl,rfl⟩)
     | (go_at_call 65;refine KB.mono ?_;clear KB;rintro e w1 ⟨rfl,rfl⟩)
     | (go_at_call 25;refine KI.mono ?_;clear KI;rintro e w1 ⟨rfl,rfl⟩)
     | (go_at_call 56;refine KV.mono ?_;clear KV;rintro e w1 ⟨rfl,rfl⟩)
     | (go_at_call 25;refine KIa.mono ?_;clear KIa;rintro e w1 ⟨rfl,rfl⟩)
     | (go_at_call 25;refine KIb.mono ?_;clear KIb;rintro e w1 ⟨rfl,rfl⟩)
     | (go_at_call 63;refine KLa.mono ?_;clear KLa;rintro e w1 ⟨rfl,rfl⟩)
     | (go_at_call 63;refine KLb.mono ?_;clear KLb;rintro e w1 ⟨rfl,rfl⟩))
    go_loopg [2,9] i (fun gj s2 s9 wr=>∃j:Nat,j+gj=i∧s2 = .bool false∧s9 = .int .i64 (j:Int)∧wr=w1)
    case atStart=>exact⟨0,by omega,rfl,rfl,rfl⟩
    case round =>
     obtain⟨j,hj,rfl,rfl,rfl⟩:=hrel;have hJ:Aside (j+gk=i):=hj;clear hj;by_cases hjl:j<i
     ·have hjl':(j:Int)<(i:Int):=by omega
      have hjL:j<L:=by omega
      obtain⟨y,hy⟩:∃y,M.hs.getD j 0=y:=⟨_,rfl⟩
      have cy:=row.cell hjL;rw[hy]at cy;have ym:y∈M.hs:=by rw[← hy];exact getD_mem (by rw[hLA.out];exact hjL)
      have yx:y≠x:=by
       have:=sorted_getD o.sorted (by rw[hLA.out];exact hlt) hjl;rw[hy,hxA.out]at this;omega
      have yr:=o.range y ym;have une:=one.out y ym yx;have JL:=s_level h1 y (by omega);rw[Mdl.levI_in o ym]at JL;have JA:=s_low h1 y (by omega);rw[Mdl.lowN_in o ym]at JA;have JB:=s_high h1 y (by omega);rw[Mdl.highN_in o ym]at JB;rw[ndA.out]at une;have uneA:Aside (¬((M.nd y).1=lv∧(M.nd y).2.1=lo∧(M.nd y).2.2=hh)):=fun e=>une (Prod.ext e.1 (Prod.ext e.2.1 e.2.2))
      clear une hy yx;generalize (M.nd y).1=ly at JL uneA;generalize (M.nd y).2.1=a at JA uneA;generalize (M.nd y).2.2=b at JB uneA;by_cases c1:ly=lv
      ·subst c1;by_cases c2:a=lo
       ·subst c2;have c3:¬b=hh:=fun e=>uneA.out ⟨rfl,rfl,e⟩
        have d3:¬(b:Int)=(hh:Int):=by omega
        have d3':((b:Int) == (hh:Int))=false:=by simpa using d3
        clear c3
        go_wp2_with (first
         | (go_at_call 63;refine JL.mono ?_;clear JL;rintro e w1 ⟨rfl,rfl⟩)
         | (go_at_call 64;refine JA.mono ?_;clear JA;rintro e w1 ⟨rfl,rfl⟩)
         | (go_at_call 65;refine JB.mono ?_;clear JB;rintro e w1 ⟨rfl,rfl⟩))
        go_roundg (gk-1)
        case measure=>have:=hJ.out;omega
        case rel =>
         have hj:=hJ.out;exact⟨j+1,by omega,rfl,by go_num,rfl⟩
       ·have d2:¬(a:Int)=(lo:Int):=by omega
        have d2':((a:Int) == (lo:Int))=false:=by simpa using d2
        clear c2
        go_wp2_with (first
         | (go_at_call 63;refine JL.mono ?_;clear JL;rintro e w1 ⟨rfl,rfl⟩)
         | (go_at_call 64;refine JA.mono ?_;clear JA;rintro e w1 ⟨rfl,rfl⟩)
         | (go_at_call 65;refine JB.mono ?_;clear JB;rintro e w1 ⟨rfl,rfl⟩))
        go_roundg (gk-1)
        case measure=>have:=hJ.out;omega
        case rel =>
         have hj:=hJ.out;exact⟨j+1,by omega,rfl,by go_num,rfl⟩
      ·have d1:¬(ly:Int)=(lv:Int):=by omega
       have d1':((ly:Int) == (lv:Int))=false:=by simpa using d1
       clear c1
       go_wp2_with (first
        | (go_at_call 63;refine JL.mono ?_;clear JL;rintro e w1 ⟨rfl,rfl⟩)
        | (go_at_call 64;refine JA.mono ?_;clear JA;rintro e w1 ⟨rfl,rfl⟩)
        | (go_at_call 65;refine JB.mono ?_;clear JB;rintro e w1 ⟨rfl,rfl⟩))
       go_roundg (gk-1)
       case measure=>have:=hJ.out;omega
       case rel =>
        have hj:=hJ.out;exact⟨j+1,by omega,rfl,by go_num,rfl⟩
     ·obtain rfl:j=i:=by have:=hJ.out;omega
      go_wp2_with fail
      go_roundg (go-1)
      case measure=>have:=hI.out;omega
      case rel =>
       have hi:=hI.out;exact⟨j+1,by omega,rfl,by go_num,rfl⟩
  ·obtain rfl:i=L:=by have:=hI.out;omega
   go_wp2_with fail
   go_ret
   exact⟨rfl,b1A.out⟩
end Go.Proofs.YtnnmdkaoiofabaaGreat
namespace Go.Proofs.YtnnmdkaoiofabaaGreat
open Go Go.RowKit
open Rf (fixAt fixF tab word same IsTab)
theorem same_false {F G:Nat→Bool}(h:¬Eqt F G):same F G=false:=by
 cases e:same F G with
 | false=>rfl
 | true=>exact absurd ((Rf.same_iff F G).1 e) h
theorem same_true {F G:Nat→Bool}(h:Eqt F G):same F G=true:=(Rf.same_iff F G).2 h
theorem run_eqT (F G:Nat→Bool) (w:World):(binOp .eql 24 (tab F) (tab G)).run Tryz.prog w = .ok (.bool (same F G)) w:=by
 have h:(Op.equalIn 10000 24 (tab F) (tab G)).run Tryz.prog w = .ok (same F G) w:=Rf.equal_tab F G w;unfold tab at h ⊢;go_simp
theorem guard_eqT (x y:Operand) (F G:Nat→Bool) (w:World):(eqGuard .eql 24 x y (tab F) (tab G)).run Tryz.prog w = .ok () w:=run_eqGuard_agg (P:=Tryz.prog) w .eql 24 x y _ _ (by kernel_rfl)
theorem callConst (vs:Array Value) (w:World):(callFunc 76 vs).run Tryz.prog w = .ok (.enter 76 vs) w:=by
 have h:=Tryz.func76;go_simp
theorem callFix (vs:Array Value) (w:World):(callFunc 40 vs).run Tryz.prog w = .ok (.enter 40 vs) w:=by
 have h:=Tryz.func40;go_simp
theorem idxI (bv ov k n cap:Nat) (h:k<n) (w:World):(Instr.indexAt 42 (.slice (some ⟨bv,ov,none⟩) n cap) (.int .i64 (k:Int))).run Tryz.prog w = .ok (.pointer (some ⟨bv,ov+k,none⟩)) w:=by
 have h1:(k:Int)<(n:Int):=by omega
 go_simp
theorem loadI {w:World}{ad:Addr}{v:Int}(h:w.cell? ad=some (.int .i64 v)):(Instr.loadAt 3 (.pointer (some ad))).run Tryz.prog w = .ok (.int .i64 v) w:=by
 go_simp
theorem kept {w w':World}{b:Nat}{F:Nat→Bool}(h:IsTab w b F) (k:Below w.heap.size w w'):IsTab w' b F:=h.below k h.lt
structure Rm (P:Mdl→Nat→(Nat→Bool)→Prop):Prop where
 low:∀{M:Mdl} {k:Nat} {F:Nat→Bool},M.Ok→k<M.n→Dep M k F→P M k F→P M (k+1) (fixF F (M.v k) false)
 high:∀{M M1:Mdl} {k a:Nat} {F:Nat→Bool},M.Ok→M1.Ok→k<M.n→Dep M k F→P M k F→MadeIs M (k+1) (fixF F (M.v k) false) a M1→P M1 (k+1) (fixF F (M.v k) true)
 fits:∀{M M1 M2:Mdl} {k a c:Nat} {F:Nat→Bool},M.Ok→M1.Ok→M2.Ok→k<M.n→Dep M k F→¬Cst F→¬Eqt (fixF F (M.v k) false) (fixF F (M.v k) true)→P M k F→MadeIs M (k+1) (fixF F (M.v k) false) a M1→MadeIs M1 (k+1) (fixF F (M.v k) true) c M2→(∀y∈M2.hs,M2.nd y≠(k,a,c))→M2.hs.length<M2.room
def Much (M:Mdl) (k:Nat) (_F:Nat→Bool):Prop:=M.up+(2^(M.n-2-k)-1)+19≤M.room
theorem much_two {M:Mdl}{k a b:Nat}(hk:k<M.n) (h1:a≤M.up+(2^(M.n-2-(k+1))-1)) (h2:b≤a+(2^(M.n-2-(k+1))-1)):b≤M.up+(2^(M.n-2-k)-1):=by
 have p1:=two_pow_pos' (M.n-2-(k+1));by_cases q:k+2<M.n
 ·have:(2:Nat)^(M.n-2-k)=2*2^(M.n-2-(k+1)):=by
   rw[show M.n-2-k=(M.n-2-(k+1))+1 by omega,Nat.pow_succ];omega
  omega
 ·have e0:M.n-2-(k+1)=0:=by omega
  rw[e0]at h1 h2;simp at h1 h2;omega
theorem Rm.much : Rm Much:=by
 refine⟨fun {M k F} o hk d h=>?_,fun {M M1 k a F} o o1 hk d h m=>?_,fun {M M1 M2 k a c F} o o1 o2 hk d nc ne h m1 m2 no=>?_⟩
 ·unfold Much at *;have pw:(2:Nat)^(M.n-2-(k+1))≤2^(M.n-2-k):=Nat.pow_le_pow_right (by omega) (by omega);omega
 ·unfold Much at *;have:=much_two hk m.up (Nat.le_refl _);rw[m.grew.n,m.grew.room];omega
 ·unfold Much at h;have u2:=m2.up;rw[m1.grew.n]at u2;have:=much_two hk m1.up u2;have:=Mdl.len_le o2;have r2:=m2.grew.room;have r1:=m1.grew.room;omega
open Rf (gval gval_pos gval_neg does_val does_call does_if vok_plain vok_maybe x_move x_load x_bin x_call x_pick x_assign wp_region_vals run_load24)
set_option maxRecDepth 100000 in
set_option maxHeartbeats 4000000 in
theorem made_step {w:World}{S:Nat}{F0:Nat→Prop}{M:Mdl}{k:Nat}{F:Nat→Bool}{g capv:Nat}(h:St w S F0 M) (hk:k≤M.n) (dep:Dep M k F) (row:w.rowIs g 3 M.n (fun i=>.int .i64 (M.v i:Int))){P:Mdl→Nat→(Nat→Bool)→Prop}(rm:Rm P) (room:P M k F)
  (ih:k<M.n→∀{w:World} {F0:Nat→Prop} {M':Mdl} {F:Nat→Bool},St w S F0 M'→M'.n=M.n→Dep M' (k+1) F→w.rowIs g 3 M'.n (fun i=>.int .i64 (M'.v i:Int))→P M' (k+1) F→Calls Tryz.prog 41 #[.pointer (some ⟨S,0,none⟩),tab F,.slice (some ⟨g,0,none⟩) M'.n capv,.int .i64 ((k+1:Nat):Int)] w fun e w'=>∃x M'',e = .returned (.tuple #[.int .u32 ((x:Nat):Int),.bool true])∧(∃F',St w' S F' M''∧Wf F0 F' w w')∧MadeIs M' (k+1) F x M'') :
  Calls Tryz.prog 41 #[.pointer (some ⟨S,0,none⟩),tab F,.slice (some ⟨g,0,none⟩) M.n capv,.int .i64 (k:Int)] w fun e w'=>∃x M',e = .returned (.tuple #[.int .u32 ((x:Nat):Int),.bool true])∧(∃F',St w' S F' M'∧Wf F0 F' w w')∧MadeIs M k F x M':=by
 obtain⟨c0,hc0⟩:∃c0,same F (fun _=>false)=c0:=⟨_,rfl⟩
 obtain⟨c1,hc1⟩:∃c1,same F (fun _=>true)=c1:=⟨_,rfl⟩
 have c0A:Aside (same F (fun _=>false)=c0):=hc0;have c1A:Aside (same F (fun _=>true)=c1):=hc1;have r0:∀w,(binOp .eql 24 (tab F) (tab (fun _=>false))).run Tryz.prog w = .ok (.bool c0) w:=fun w=>by rw[← hc0];exact run_eqT _ _ w
 have r1:∀w,(binOp .eql 24 (tab F) (tab (fun _=>true))).run Tryz.prog w = .ok (.bool c1) w:=fun w=>by rw[← hc1];exact run_eqT _ _ w
 clear hc0 hc1
 conv in #[Value.pointer (some ⟨S, 0, none⟩), tab F, Value.slice (some ⟨g, 0, none⟩) M.n capv, Value.int .i64 (k : Int)] => unfold tab
 go_enter Tryz.func41,Tryz.ntmps41
 go_wp2_with fail
 have TF:=IsTab.new w F;have B0:=(Below.refl _ w).alloc (Nat.le_refl _) (.cells #[.int .u64 (word F 0:Int),.int .u64 (word F 1:Int),.int .u64 (word F 2:Int),.int .u64 (word F 3:Int)] 24);generalize w.alloc (.cells #[.int .u64 (word F 0:Int),.int .u64 (word F 1:Int),.int .u64 (word F 2:Int),.int .u64 (word F 3:Int)] 24)=w4 at TF B0 ⊢;have B0A:Aside (Below w.heap.size w w4):=B0;generalize hB:w.heap.size=b at TF ⊢;have hBA:Aside (w.heap.size=b):=hB;clear hB
 refine wp_region_vals (fun u=>Below w4.heap.size w4 u) [(18,tab F),(19,tab (fun _=>false)),(20,.bool c0),(21,.bool c0),(22,gval c0 false (tab F)),(23,gval c0 false (tab (fun _=>true))),(24,gval c0 false (.bool c1)),(25,.bool (c0 || c1))] [18,19,20,21,22,23,24,25] 91 (by kernel_rfl) (by kernel_rfl) rfl rfl (by decide) rfl (by decide) ((Below.refl _ _).drew) ?_ ?_
 ·intro i kk hkk;match i,hkk with
  | 0,hk=>obtain rfl:=Option.some.inj hk;exact vok_plain _ rfl rfl rfl (does_val rfl fun ac u hG hL=>x_load rfl ((hG.other 5 (by decide)).trans rfl) (run_load24 (kept TF hG.here)))
  | 1,hk=>obtain rfl:=Option.some.inj hk;exact vok_plain _ rfl rfl rfl (does_call #[.bool false] rfl (fun ac u hG hL=>x_call rfl (by simp[Act.eval]) (fun w=>callConst _ w)) (fun u hu=>(Rf.const_any false u).mono fun e w' q=>⟨q.1,Rf.below_far hu q.2⟩))
  | 2,hk=>obtain rfl:=Option.some.inj hk;exact vok_plain _ rfl rfl rfl (does_val rfl fun ac u hG hL=>x_bin rfl (hL ⟨0,.data⟩ (by simp) rfl _ rfl) (hL ⟨1,.data⟩ (by simp) rfl _ rfl) (guard_eqT _ _ _ _ _) (r0 u))
  | 3,hk=>obtain rfl:=Option.some.inj hk;exact vok_plain _ rfl rfl rfl (does_val rfl fun ac u hG hL=>x_move rfl (hL ⟨2,.data⟩ (by simp) rfl _ rfl))
  | 4,hk=>obtain rfl:=Option.some.inj hk;exact vok_maybe _ rfl rfl 3 false 21 c0 rfl ⟨⟨3,.guard⟩,by simp,rfl,rfl⟩ rfl (fun e=>gval_neg e) (fun e=>does_if e (does_val rfl fun ac u hG hL=>x_load rfl ((hG.other 5 (by decide)).trans rfl) (run_load24 (kept TF hG.here))))
  | 5,hk=>obtain rfl:=Option.some.inj hk;exact vok_maybe _ rfl rfl 3 false 21 c0 rfl ⟨⟨3,.guard⟩,by simp,rfl,rfl⟩ rfl (fun e=>gval_neg e) (fun e=>does_if e (does_call #[.bool true] rfl (fun ac u hG hL=>x_call rfl (by simp[Act.eval]) (fun w=>callConst _ w)) (fun u hu=>(Rf.const_any true u).mono fun e w' q=>⟨q.1,Rf.below_far hu q.2⟩)))
  | 6,hk=>obtain rfl:=Option.some.inj hk;exact vok_maybe _ rfl rfl 3 false 21 c0 rfl ⟨⟨3,.guard⟩,by simp,rfl,rfl⟩ rfl (fun e=>gval_neg e) (fun e=>does_if e (does_val rfl fun ac u hG hL=>x_bin rfl ((hL ⟨4,.data⟩ (by simp) rfl _ rfl).trans (gval_pos e)) ((hL ⟨5,.data⟩ (by simp) rfl _ rfl).trans (gval_pos e)) (guard_eqT _ _ _ _ _) (r1 u)))
  | 7,hk=>obtain rfl:=Option.some.inj hk;exact vok_plain _ rfl rfl rfl (does_val rfl fun ac u hG hL=>x_pick (b:=c0) rfl (hL ⟨3,.data⟩ (by simp) rfl _ rfl) (by cases c0 with|true=>rfl|false=>exact(hL ⟨6,.data⟩ (by simp) rfl _ rfl)))
  | i+8,hk=>simp at hk
 ·intro w5 s5;simp only[Rf.vfin,Act.put,List.setIfInBounds_toArray,List.set_cons_succ,List.set_cons_zero];have TF5:=kept TF s5;have B5:Below w.heap.size w w5:=Rf.below_far B0A.out s5;have h5:=h.below B5;have row5:=row.of_block (B5.block g row.lt);have B5A:Aside (Below w.heap.size w w5):=B5;clear s5 TF B0 B5;have reg2:Aside (∀(z:Bool),same F (fun _=>true)=z→∀w,(binOp .eql 24 (tab F) (tab (fun _=>true))).run Tryz.prog w = .ok (.bool z) w):=fun z hz w=>by rw[← hz];exact run_eqT _ _ w
  clear r0 r1;cases c0 with
  | true =>
   have e0:Eqt F (fun _=>false):=(Rf.same_iff _ _).1 c0A.out;have z1:=reg2.out false (same_false fun e=>by have h1:=e0 0 (by omega);have h2:=e 0 (by omega);rw[h1]at h2;cases h2);have fin:Aside (MadeIs M k F 0 M):=MadeIs.const hk 0 (by omega) (by simpa using e0);clear e0 reg2;simp only[Bool.true_or]
   go_wp2_with fail
   refine wp_region_vals (fun u=>Below w5.heap.size w5 u) [(26,tab F),(27,tab (fun _=>true)),(28,.bool false)] [26,27,28] 91 (by kernel_rfl) (by kernel_rfl) rfl rfl (by decide) rfl (by decide) ((Below.refl _ _).drew) ?_ ?_
   ·intro i kk hkk;match i,hkk with
    | 0,hk=>obtain rfl:=Option.some.inj hk;exact vok_plain _ rfl rfl rfl (does_val rfl fun ac u hG hL=>x_load rfl ((hG.other 5 (by decide)).trans rfl) (run_load24 (kept TF5 hG.here)))
    | 1,hk=>obtain rfl:=Option.some.inj hk;exact vok_plain _ rfl rfl rfl (does_call #[.bool true] rfl (fun ac u hG hL=>x_call rfl (by simp[Act.eval]) (fun w=>callConst _ w)) (fun u hu=>(Rf.const_any true u).mono fun e w' q=>⟨q.1,Rf.below_far hu q.2⟩))
    | 2,hk=>obtain rfl:=Option.some.inj hk;exact vok_plain _ rfl rfl rfl (does_val rfl fun ac u hG hL=>x_bin rfl (hL ⟨0,.data⟩ (by simp) rfl _ rfl) (hL ⟨1,.data⟩ (by simp) rfl _ rfl) (guard_eqT _ _ _ _ _) (z1 u))
    | i+3,hk=>simp at hk
   ·intro w6 s6;simp only[Rf.vfin,Act.put,List.setIfInBounds_toArray,List.set_cons_succ,List.set_cons_zero]
    go_wp2_with fail
    go_ret2
    have B6:=Rf.below_far B5A.out s6;exact⟨0,M,rfl,⟨F0,h.below B6,Wf.of_below B6 F0⟩,fin.out⟩
  | false =>
   simp only[Bool.false_or];cases c1 with
   | true =>
    have e1:Eqt F (fun _=>true):=(Rf.same_iff _ _).1 c1A.out;have z1:=reg2.out true c1A.out;have fin:Aside (MadeIs M k F 1 M):=MadeIs.const hk 1 (by omega) (by simpa using e1);clear e1 reg2
    go_wp2_with fail
    refine wp_region_vals (fun u=>Below w5.heap.size w5 u) [(26,tab F),(27,tab (fun _=>true)),(28,.bool true)] [26,27,28] 91 (by kernel_rfl) (by kernel_rfl) rfl rfl (by decide) rfl (by decide) ((Below.refl _ _).drew) ?_ ?_
    ·intro i kk hkk;match i,hkk with
     | 0,hk=>obtain rfl:=Option.some.inj hk;exact vok_plain _ rfl rfl rfl (does_val rfl fun ac u hG hL=>x_load rfl ((hG.other 5 (by decide)).trans rfl) (run_load24 (kept TF5 hG.here)))
     | 1,hk=>obtain rfl:=Option.some.inj hk;exact vok_plain _ rfl rfl rfl (does_call #[.bool true] rfl (fun ac u hG hL=>x_call rfl (by simp[Act.eval]) (fun w=>callConst _ w)) (fun u hu=>(Rf.const_any true u).mono fun e w' q=>⟨q.1,Rf.below_far hu q.2⟩))
     | 2,hk=>obtain rfl:=Option.some.inj hk;exact vok_plain _ rfl rfl rfl (does_val rfl fun ac u hG hL=>x_bin rfl (hL ⟨0,.data⟩ (by simp) rfl _ rfl) (hL ⟨1,.data⟩ (by simp) rfl _ rfl) (guard_eqT _ _ _ _ _) (z1 u))
     | i+3,hk=>simp at hk
    ·intro w6 s6;simp only[Rf.vfin,Act.put,List.setIfInBounds_toArray,List.set_cons_succ,List.set_cons_zero]
     go_wp2_with fail
     go_ret2
     have B6:=Rf.below_far B5A.out s6;exact⟨1,M,rfl,⟨F0,h.below B6,Wf.of_below B6 F0⟩,fin.out⟩
   | false =>
    have nc:Aside (¬Cst F):=fun c=>by
     rcases c with c|c
     ·have:=same_true c;rw[c0A.out]at this;cases this
     ·have:=same_true c;rw[c1A.out]at this;cases this
    clear reg2;have hkn:k<M.n:=by
     refine Nat.lt_of_le_of_ne hk fun e=>nc.out ?_
     rw[e]at dep;have:=dep.const;cases q:F 0 with
     | false=>rw[q]at this;exact .inl this
     | true=>rw[q]at this;exact .inr this
    have o:=h.ok;have hv:M.v k<8:=by have:=o.vlt k hkn;have:=o.le8;omega
    have hkn':¬(M.n:Int)≤(k:Int):=by omega
    have hkn2:¬M.n≤k:=by omega
    have cv:∀u,Below w5.heap.size w5 u→u.cell? ⟨g,0+k,none⟩=some (.int .i64 (M.v k:Int)):=fun u hu=>by
     rw[Nat.zero_add,hu.cell row5.lt];exact row5.cell hkn
    obtain⟨X,hX⟩:∃X,fixF F (M.v k) false=X:=⟨_,rfl⟩
    obtain⟨Y,hY⟩:∃Y,fixF F (M.v k) true=Y:=⟨_,rfl⟩
    have KX:∀u,Calls Tryz.prog 40 #[tab F,.int .i64 (M.v k:Int),.bool false] u fun e w'=>e = .returned (tab X)∧Below u.heap.size u w':=fun u=>by rw[← hX];exact Rf.fix_any F (M.v k) hv false u
    have KY:∀u,Calls Tryz.prog 40 #[tab F,.int .i64 (M.v k:Int),.bool true] u fun e w'=>e = .returned (tab Y)∧Below u.heap.size u w':=fun u=>by rw[← hY];exact Rf.fix_any F (M.v k) hv true u
    have hXA:Aside (fixF F (M.v k) false=X):=hX;have hYA:Aside (fixF F (M.v k) true=Y):=hY;clear hX hY
    go_wp2_with fail
    refine Rf.wp_region_tabs' [.val 33 (tab F),.val 34 (.slice (some ⟨g,0,none⟩) M.n capv),.val 35 (.int .i64 (k:Int)),.val 36 (.pointer (some ⟨g,0+k,none⟩)),.val 37 (.int .i64 (M.v k:Int)),.val 38 (tab X),.val 39 (tab F),.val 40 (.slice (some ⟨g,0,none⟩) M.n capv),.val 41 (.int .i64 (k:Int)),.val 42 (.pointer (some ⟨g,0+k,none⟩)),.val 43 (.int .i64 (M.v k:Int)),.val 44 (tab Y),.new 10,.new 11,.put 10 X,.put 11 Y] [33,34,35,36,37,38,39,40,41,42,43,44,10,11] [10,11] [10,11] 91 (by kernel_rfl) (by kernel_rfl) rfl rfl rfl rfl (by decide) (by decide) rfl (by decide) ?_ ?_ ?_
    ·intro s hs c hc;simp only[List.mem_cons,List.not_mem_nil,or_false]at hs;rcases hs with rfl|rfl
     ·exact absurd (show undef=Rf.ptr c from hc) (by simp[undef,Rf.ptr])
     ·exact absurd (show undef=Rf.ptr c from hc) (by simp[undef,Rf.ptr])
    ·intro i kk hk;match i,hk with
     | 0,hk=>obtain rfl:=Option.some.inj hk;exact⟨_,rfl,rfl,rfl,fun a u hG hpre K hK=>Rf.wp_load (b:=b) rfl rfl ((hG.other 5 (by decide)).trans rfl) (kept TF5 hG.below) hK⟩
     | 1,hk=>obtain rfl:=Option.some.inj hk;exact⟨_,rfl,rfl,rfl,fun a u hG hpre K hK=>Rf.wp_move rfl rfl ((hG.other 2 (by decide)).trans rfl) hK⟩
     | 2,hk=>obtain rfl:=Option.some.inj hk;exact⟨_,rfl,rfl,rfl,fun a u hG hpre K hK=>Rf.wp_move rfl rfl ((hG.other 3 (by decide)).trans rfl) hK⟩
     | 3,hk=>obtain rfl:=Option.some.inj hk;exact⟨_,rfl,rfl,rfl,fun ac u hG hpre K hK=>Rf.wp_val rfl (Rf.x_index rfl (hpre ⟨1,.data⟩ (by simp) rfl _ rfl) (hpre ⟨2,.data⟩ (by simp) rfl _ rfl) (idxI g 0 k M.n capv hkn u)) (hK u (Below.refl _ _))⟩
     | 4,hk=>obtain rfl:=Option.some.inj hk;exact⟨_,rfl,rfl,rfl,fun ac u hG hpre K hK=>Rf.wp_val rfl (x_load rfl (hpre ⟨3,.data⟩ (by simp) rfl _ rfl) (loadI (cv u hG.below))) (hK u (Below.refl _ _))⟩
     | 5,hk =>
      obtain rfl:=Option.some.inj hk;refine⟨_,rfl,rfl,rfl,fun ac u hG hpre K hK=>?_⟩;have e0:ac.eval (.tmp 33)=tab F:=hpre ⟨0,.data⟩ (by simp) rfl _ rfl;have e1:ac.eval (.tmp 37) = .int .i64 (M.v k:Int):=hpre ⟨4,.data⟩ (by simp) rfl _ rfl;have e2:ac.eval (.const (.bool false)) = .bool false:=rfl;exact Rf.wp_call rfl (Rf.run_call rfl #[tab F,.int .i64 (M.v k:Int),.bool false] (fun vs=>callFix vs u) (by simp only[List.map_toArray,List.map_cons,List.map_nil,e0,e1,e2])) (KX u) hK
     | 6,hk=>obtain rfl:=Option.some.inj hk;exact⟨_,rfl,rfl,rfl,fun a u hG hpre K hK=>Rf.wp_load (b:=b) rfl rfl ((hG.other 5 (by decide)).trans rfl) (kept TF5 hG.below) hK⟩
     | 7,hk=>obtain rfl:=Option.some.inj hk;exact⟨_,rfl,rfl,rfl,fun a u hG hpre K hK=>Rf.wp_move rfl rfl ((hG.other 2 (by decide)).trans rfl) hK⟩
     | 8,hk=>obtain rfl:=Option.some.inj hk;exact⟨_,rfl,rfl,rfl,fun a u hG hpre K hK=>Rf.wp_move rfl rfl ((hG.other 3 (by decide)).trans rfl) hK⟩
     | 9,hk=>obtain rfl:=Option.some.inj hk;exact⟨_,rfl,rfl,rfl,fun ac u hG hpre K hK=>Rf.wp_val rfl (Rf.x_index rfl (hpre ⟨7,.data⟩ (by simp) rfl _ rfl) (hpre ⟨8,.data⟩ (by simp) rfl _ rfl) (idxI g 0 k M.n capv hkn u)) (hK u (Below.refl _ _))⟩
     | 10,hk=>obtain rfl:=Option.some.inj hk;exact⟨_,rfl,rfl,rfl,fun ac u hG hpre K hK=>Rf.wp_val rfl (x_load rfl (hpre ⟨9,.data⟩ (by simp) rfl _ rfl) (loadI (cv u hG.below))) (hK u (Below.refl _ _))⟩
     | 11,hk =>
      obtain rfl:=Option.some.inj hk;refine⟨_,rfl,rfl,rfl,fun ac u hG hpre K hK=>?_⟩;have e0:ac.eval (.tmp 39)=tab F:=hpre ⟨6,.data⟩ (by simp) rfl _ rfl;have e1:ac.eval (.tmp 43) = .int .i64 (M.v k:Int):=hpre ⟨10,.data⟩ (by simp) rfl _ rfl;have e2:ac.eval (.const (.bool true)) = .bool true:=rfl;exact Rf.wp_call rfl (Rf.run_call rfl #[tab F,.int .i64 (M.v k:Int),.bool true] (fun vs=>callFix vs u) (by simp only[List.map_toArray,List.map_cons,List.map_nil,e0,e1,e2])) (KY u) hK
     | 12,hk=>obtain rfl:=Option.some.inj hk;exact⟨_,rfl,rfl,rfl,rfl⟩
     | 13,hk=>obtain rfl:=Option.some.inj hk;exact⟨_,rfl,rfl,rfl,rfl⟩
     | 14,hk=>obtain rfl:=Option.some.inj hk;exact⟨_,rfl,rfl,rfl,38,rfl,⟨⟨5,.data⟩,by simp,rfl,rfl⟩,⟨⟨12,.data⟩,by simp,rfl,rfl⟩⟩
     | 15,hk=>obtain rfl:=Option.some.inj hk;exact⟨_,rfl,rfl,rfl,44,rfl,⟨⟨11,.data⟩,by simp,rfl,rfl⟩,⟨⟨13,.data⟩,by simp,rfl,rfl⟩⟩
     | i+16,hk=>simp at hk
    ·intro bp w6 s6 hnew hne hput;have TX:=hput 10 X (by simp);have TY:=hput 11 Y (by simp);clear hput hnew hne KX KY cv;simp only[Rf.fin,Rf.Kind.dst?,Rf.kval,Act.put,Rf.ptr,List.setIfInBounds_toArray,List.set_cons_succ,List.set_cons_zero];generalize bp 10=pa at TX ⊢;generalize bp 11=pb at TY ⊢;have B6:Below w.heap.size w w6:=Rf.below_far B5A.out s6;have h6:=h.below B6;have row6:=row.of_block (B6.block g row.lt);have B6A:Aside (Below w.heap.size w w6):=B6;have dX:Dep M (k+1) X:=hXA.out ▸ dep.fix o hkn false;have dY:Dep M (k+1) Y:=hYA.out ▸ dep.fix o hkn true
     have room1:P M (k+1) X:=hXA.out ▸ rm.low o hkn dep room;have room2:Aside (∀{M8:Mdl} {a:Nat},M8.Ok→MadeIs M (k+1) X a M8→P M8 (k+1) Y):=fun {M8 a} o8 m8=>hYA.out ▸ rm.high o o8 hkn dep room (by rw[hXA.out];exact m8)
     have depA:Aside (Dep M k F):=dep;obtain⟨z,hz⟩:∃z,same X Y=z:=⟨_,rfl⟩
     have hzA:Aside (same X Y=z):=hz;have rz:∀w,(binOp .eql 24 (tab X) (tab Y)).run Tryz.prog w = .ok (.bool z) w:=fun w=>by rw[← hz];exact run_eqT _ _ w
     clear hz s6 TF5 B6 row5 h5 hk dep;go_upto_region 8 with fail
     refine Rf.wp_region_valsq (fun u=>u=w6) [(45,tab X),(46,tab Y),(47,.bool z)] [45,46,47] 91 (by kernel_rfl) rfl rfl (by decide) rfl (by decide) rfl ?_ ?_
     ·intro i kk hkk;match i,hkk with
      | 0,hk=>obtain rfl:=Option.some.inj hk;exact vok_plain _ rfl rfl rfl (does_val rfl fun ac u hG hL=>x_load rfl ((hG.other 10 (by decide)).trans rfl) (by obtain rfl:=hG.here;exact run_load24 TX))
      | 1,hk=>obtain rfl:=Option.some.inj hk;exact vok_plain _ rfl rfl rfl (does_val rfl fun ac u hG hL=>x_load rfl ((hG.other 11 (by decide)).trans rfl) (by obtain rfl:=hG.here;exact run_load24 TY))
      | 2,hk=>obtain rfl:=Option.some.inj hk;exact vok_plain _ rfl rfl rfl (does_val rfl fun ac u hG hL=>x_bin rfl (hL ⟨0,.data⟩ (by simp) rfl _ rfl) (hL ⟨1,.data⟩ (by simp) rfl _ rfl) (guard_eqT _ _ _ _ _) (rz u))
      | i+3,hk=>simp at hk
     ·intro w7 hw7;obtain rfl:=hw7;simp only[Rf.vfin,Act.put,List.setIfInBounds_toArray,List.set_cons_succ,List.set_cons_zero];obtain⟨t0,t1,t2,t3⟩:=TX.copy;have kb:(k:Int)≤8:=by have:=o.le8;omega
      have KA:=ih hkn h6 rfl dX row6 room1;rw[show ((k+1:Nat):Int)=(k:Int)+1 by omega]at KA;unfold tab at KA;cases z with
      | true =>
       have eXY:Aside (Eqt X Y):=(Rf.same_iff _ _).1 hzA.out
       go_wp2_with (first
        | (go_at_call 41;refine KA.mono ?_;clear KA;rintro e w8 ⟨x,M8,rfl,⟨F8,s8,b8⟩,m8⟩))
       go_ret2
       refine⟨x,M8,rfl,⟨F8,s8,(Wf.of_below B6A.out F0).trans b8⟩,MadeIs.skip o hkn nc.out ?_ (by rw[hXA.out];exact m8)⟩;rw[hXA.out,hYA.out];exact eXY.out
      | false =>
       have neXY:Aside (¬Eqt X Y):=fun e=>by have:=same_true e;rw[hzA.out]at this;cases this
       have KB:Aside (∀{w8:World} {F8:Nat→Prop} {M8:Mdl} {a:Nat},St w8 S F8 M8→Wf F0 F8 w7 w8→MadeIs M (k+1) X a M8→Calls Tryz.prog 41 #[.pointer (some ⟨S,0,none⟩),tab Y,.slice (some ⟨g,0,none⟩) M.n capv,.int .i64 ((k:Int)+1)] w8 fun e w'=>∃x M'',e = .returned (.tuple #[.int .u32 ((x:Nat):Int),.bool true])∧(∃F',St w' S F' M''∧Wf F8 F' w8 w')∧MadeIs M8 (k+1) Y x M''):=fun {w8 F8 M8 a} s8 b8 m8=>by
        have n8:=m8.grew.n;have v8:=m8.grew.v;have:=ih hkn (M':=M8) (F:=Y) s8 n8 (fun x y hx hy e=>dY x y hx hy (by rw[n8,v8]at e;exact e)) (by rw[n8,v8];exact b8.row h6 row6 (by decide)) (room2.out s8.ok m8);rw[n8,show ((k+1:Nat):Int)=(k:Int)+1 by omega]at this;exact this
       have neF:Aside (¬Eqt (fixF F (M.v k) false) (fixF F (M.v k) true)):=by simp only[Aside];rw[hXA.out,hYA.out];exact neXY.out
       have TYA:Aside (IsTab w7 pb Y):=TY;have tabY:Aside (∀{w8:World} {F8:Nat→Prop},Wf F0 F8 w7 w8→IsTab w8 pb Y):=fun {w8 F8} b8=>(b8.block pb TY.lt (h6.row TY (by decide))).trans TY
       go_upto_region 14 with (first
        | (go_at_call 41;refine KA.mono ?_;clear KA;rintro e w8 ⟨a,M8,rfl,⟨F8,s8,b8⟩,m8⟩;have KY:=KB.out s8 b8 m8;unfold tab at KY;have TY8:=tabY.out b8;obtain⟨y0,y1,y2,y3⟩:=TY8.copy)
        | (go_at_call 41;refine KY.mono ?_;clear KY;rintro e w9 ⟨c,M9,rfl,⟨F9,s9,b9⟩,m9⟩;rw[← hXA.out]at m8;rw[← hYA.out]at m9;have fit:Aside (M9.Fits (k,a,c)):=m8.fits hkn s8.ok neF.out m9))
       have wf9:=((Wf.of_below B6A.out F0).trans b8).trans b9;clear y0 y1 y2 y3 t0 t1 t2 t3;by_cases hth:∃y∈M9.hs,M9.nd y=(k,a,c)
       ·obtain⟨y,ym,ye⟩:=hth;have Km:=s_mk_there s9 k a c fit.out y ym ye;have yeA:Aside (M9.nd y=(k,a,c)):=ye;clear ye
        go_wp2_with (first
         | (go_at_call 77;refine Km.mono ?_;clear Km;rintro e w10 ⟨rfl,F10,s10,b10⟩))
        go_ret2
        exact⟨y,M9,rfl,⟨F10,s10,wf9.trans b10⟩,MadeIs.join hkn s8.ok s9.ok s9.ok nc.out neF.out m8 m9 (.inl ⟨ym,yeA.out,rfl⟩)⟩
       ·have no9:∀y∈M9.hs,M9.nd y≠(k,a,c):=fun y ym ye=>hth ⟨y,ym,ye⟩
        have rL:=rm.fits o s8.ok s9.ok hkn depA.out nc.out neF.out room m8 m9 no9;have Km:=s_mk_new s9 k a c fit.out no9 rL;clear no9 rL;clear hth
        go_wp2_with (first
         | (go_at_call 77;refine Km.mono ?_;clear Km;rintro e w10 ⟨y,rfl,F10,M10,ad10,s10,b10,y10⟩;have adA:Aside (M9.Adds y (k,a,c) M10):=ad10;clear ad10 y10))
        go_ret2
        exact⟨y,M10,rfl,⟨F10,s10,wf9.trans b10⟩,MadeIs.join hkn s8.ok s9.ok s10.ok nc.out neF.out m8 m9 (.inr adA.out)⟩
theorem made_any' {P:Mdl→Nat→(Nat→Bool)→Prop}(rm:Rm P) (d:Nat):∀{w:World}{S:Nat}{F0:Nat→Prop}{M:Mdl}{k:Nat}{F:Nat→Bool}{g capv:Nat}(_:St w S F0 M) (_:M.n-k≤d) (_:k≤M.n) (_:Dep M k F) (_:w.rowIs g 3 M.n (fun i=>.int .i64 (M.v i:Int))) (_:P M k F),
  Calls Tryz.prog 41 #[.pointer (some ⟨S,0,none⟩),tab F,.slice (some ⟨g,0,none⟩) M.n capv,.int .i64 (k:Int)] w fun e w'=>∃x M',e = .returned (.tuple #[.int .u32 ((x:Nat):Int),.bool true])∧(∃F',St w' S F' M'∧Wf F0 F' w w')∧MadeIs M k F x M':=by
 induction d with
 | zero =>
  intro w S F0 M k F g capv h hd hk dep row room;exact made_step h hk dep row rm room fun e=>by omega
 | succ d ih =>
  intro w S F0 M k F g capv h hd hk dep row room;exact made_step h hk dep row rm room fun e {w' F' M' G} s n dp r rm=>ih s (by omega) (by omega) dp r rm
end Go.Proofs.YtnnmdkaoiofabaaGreat
namespace Go.Proofs.YtnnmdkaoiofabaaGreat
open Go Go.RowKit
open Rf (fixAt fixF tab word same IsTab TabsAt)
set_option maxHeartbeats 2000000 in
theorem make_any' {w:World}{S:Nat}{F0:Nat→Prop}{M:Mdl}{F:Nat→Bool}{P:Mdl→Nat→(Nat→Bool)→Prop}(rm:Rm P) (h:St w S F0 M) (dep:Dep M 0 F) (room:P M 0 F) :
  Calls Tryz.prog 11 #[.pointer (some ⟨S,0,none⟩),tab F] w fun e w'=>∃x M',e = .returned (.tuple #[.int .u32 ((x:Nat):Int),.bool true])∧(∃F',St w' S F' M'∧Wf F0 F' w w')∧MadeIs M 0 F x M':=by
 have n8:=h.ok.le8
 conv in #[Value.pointer (some ⟨S, 0, none⟩), tab F] => unfold tab
 go_enter Tryz.func11,Tryz.ntmps11
 go_wp2_with fail
 have TF:=IsTab.new w F;have B0:=(Below.refl _ w).alloc (Nat.le_refl _) (.cells #[.int .u64 (word F 0:Int),.int .u64 (word F 1:Int),.int .u64 (word F 2:Int),.int .u64 (word F 3:Int)] 24);generalize w.alloc (.cells #[.int .u64 (word F 0:Int),.int .u64 (word F 1:Int),.int .u64 (word F 2:Int),.int .u64 (word F 3:Int)] 24)=w4 at TF B0 ⊢;have B0A:Aside (Below w.heap.size w w4):=B0;generalize hB:w.heap.size=b at TF ⊢;clear hB;have h4:St w4 S F0 M:=h.below B0;have K1:=s_order h4.drew;clear B0
 go_region_held3 (fun u=>u.cell? ⟨b,0,none⟩=some (.int .u64 (word F 0:Int))∧u.cell? ⟨b,1,none⟩=some (.int .u64 (word F 1:Int))∧u.cell? ⟨b,2,none⟩=some (.int .u64 (word F 2:Int))∧u.cell? ⟨b,3,none⟩=some (.int .u64 (word F 3:Int))) (first|assumption|exact TF.drew.copy) (first
  | (go_at_call 14;refine K1.mono ?_;clear K1;rintro e w1 ⟨P,l,rfl,o1,b1,p1⟩;have T1:=kept TF.drew b1;have C1:=T1.copy;have K2:=Od.all_any o1 n8)
  | (go_at_call 15;refine K2.mono ?_;clear K2;rintro e w2 ⟨rfl,r2,b2⟩;have B2:=Rf.below_far b1 b2;have T2:=kept T1 b2;have C2:=T2.copy;have h2:=h4.drew.below B2;have K3:Calls Tryz.prog 41 #[.pointer (some ⟨S,0,none⟩),tab F,.slice (some ⟨w1.heap.size,0,none⟩) M.n M.n,.int .i64 0] w2 _:=made_any' rm (M.n-0) (k:=0) h2 (Nat.le_refl _) (Nat.zero_le _) dep r2 room;unfold tab at K3)
  | (go_at_call 41;refine K3.mono ?_;clear K3;rintro e w3 ⟨x,M3,rfl,⟨F3,s3,b3⟩,m3⟩;have C3:=IsTab.copy (show IsTab w3 b F from(b3.block b T2.lt (h2.row T2 (by decide))).trans T2)))
 go_wp2_with fail
 go_ret2
 exact⟨x,M3,rfl,⟨F3,s3,(Wf.of_below B0A.out F0).trans ((Wf.of_below B2 F0).trans b3).undrew⟩,m3⟩
theorem make_any {w:World}{S:Nat}{F0:Nat→Prop}{M:Mdl}{F:Nat→Bool}(h:St w S F0 M) (dep:Dep M 0 F) (room:M.up+(2^(M.n-2)-1)+19≤M.room) :
  Calls Tryz.prog 11 #[.pointer (some ⟨S,0,none⟩),tab F] w fun e w'=>∃x M',e = .returned (.tuple #[.int .u32 ((x:Nat):Int),.bool true])∧(∃F',St w' S F' M'∧Wf F0 F' w w')∧MadeIs M 0 F x M':=make_any' Rm.much h dep (by unfold Much;rw[Nat.sub_zero];exact room)
theorem tab_zero : tab (fun _=>false) = .agg #[.int .u64 0,.int .u64 0,.int .u64 0,.int .u64 0]:=by
 unfold tab;rw[Rf.word_zero,Rf.word_zero,Rf.word_zero,Rf.word_zero];rfl
theorem results_tab2 {fn:Func}{p q:Tmp}(h:fn.results=#[.cell p 24,.tmp q]){tmps:Array Value}{w:World}{b:Nat}{F:Nat→Bool}{v:Value}(hp:tmps.getD p undef = .pointer (some ⟨b,0,none⟩)) (hq:tmps.getD q undef=v) (hT:IsTab w b F) :
  (results fn tmps).run Tryz.prog w = .ok (.tuple #[tab F,v]) w:=by
 have c0:=hT.cell (show 0<4 by decide);have c1:=hT.cell (show 1<4 by decide);have c2:=hT.cell (show 2<4 by decide);have c3:=hT.cell (show 3<4 by decide);simp only[Array.getD_eq_getD_getElem?]at hp hq;simp[results,h,hp,hq,go_sem,c0,c1,c2,c3,tab]
set_option maxRecDepth 100000 in
set_option maxHeartbeats 4000000 in
theorem walk_step {w:World}{S:Nat}{F0:Nat→Prop}{M:Mdl}{x deep bv capv:Nat}(h:St w S F0 M) (xn:M.isNode x) (hd:deep≤M.lev x) (tv:TabsAt w (some ⟨bv,0,none⟩) M.n (fun i=>Rf.M (M.v i)))
  (ih:x∈M.hs→∀{w':World} {y:Nat},St w' S F0 M→M.isNode y→M.lev x<M.lev y→TabsAt w' (some ⟨bv,0,none⟩) M.n (fun i=>Rf.M (M.v i))→Calls Tryz.prog 93 #[.pointer (some ⟨S,0,none⟩),.int .u32 (y:Int),.slice (some ⟨bv,0,none⟩) M.n capv,.int .i64 ((M.lev x:Int)+1)] w' fun e w''=>e = .returned (.tuple #[tab (M.tbl y),.bool true])∧Below w'.heap.size w' w'') :
  Calls Tryz.prog 93 #[.pointer (some ⟨S,0,none⟩),.int .u32 (x:Int),.slice (some ⟨bv,0,none⟩) M.n capv,.int .i64 (deep:Int)] w fun e w'=>e = .returned (.tuple #[tab (M.tbl x),.bool true])∧Below w.heap.size w w':=by
 have o:=h.ok;by_cases h0:x=0
 ·subst h0;have e0:Aside (tab (M.tbl 0) = .agg #[.int .u64 0,.int .u64 0,.int .u64 0,.int .u64 0]):=(Rf.tab_ext fun y _=>Mdl.val_zero _).trans tab_zero;clear ih tv;go_enter Tryz.func93,Tryz.ntmps93
  go_wp2_with fail
  rw[e0.out];exact bodyPost_ret (v:=.tuple #[.agg #[.int .u64 0,.int .u64 0,.int .u64 0,.int .u64 0],.bool true]) (by simp[results,Tryz.results93,go_sem]) rfl ⟨rfl,(Below.refl _ _).alloc (Nat.le_refl _) _⟩
 ·by_cases h1:x=1
  ·subst h1;have e1:Aside (tab (M.tbl 1)=tab (fun x=>!(fun _=>false) x)):=Rf.tab_ext fun y _=>Mdl.val_one _
   obtain⟨R,hR⟩:∃R,tab (M.tbl 1)=R:=⟨_,rfl⟩
   rw[hR]at e1 ⊢;clear hR;have KN:=Rf.not_any (fun _=>false);rw[tab_zero]at KN;have T0:=IsTab.zero (w:=w.alloc (.cells #[.int .u64 0,.int .u64 0,.int .u64 0,.int .u64 0] 24)) (b:=w.heap.size) (Go.Deep.blk_alloc_new _ _);clear ih tv;go_enter Tryz.func93,Tryz.ntmps93
   go_upto_region 4 with fail
   have B0:=(Below.refl _ w).alloc (Nat.le_refl _) (.cells #[.int .u64 0,.int .u64 0,.int .u64 0,.int .u64 0] 24);generalize w.alloc (.cells #[.int .u64 0,.int .u64 0,.int .u64 0,.int .u64 0] 24)=w4 at T0 B0 ⊢
   go_wp2_with (first
    | (go_at_call 110;refine(KN _).mono ?_;unfold tab;rintro e w5 ⟨rfl,b5⟩;have T5:=kept T0 b5;have y0:=T5.cell (k:=0) (by decide);have y1:=T5.cell (k:=1) (by decide);have y2:=T5.cell (k:=2) (by decide);have y3:=T5.cell (k:=3) (by decide);have z0:=T5.free 0;have z1:=T5.free 1;have z2:=T5.free 2;have z3:=T5.free 3))
   have B5:=Rf.below_far B0 b5;exact bodyPost_ret (results_tab2 rfl rfl rfl (Rf.laid_tab T5 _)) rfl ⟨by rw[e1.out];rfl,B5.trans ((Rf.laid_turned _ _ _).below B5.size (Nat.le_refl _))⟩
  ·have xm:x∈M.hs:=xn.resolve_left (by omega);have hx:x<4294967296:=by have:=(o.range x xm).2;omega
   obtain⟨l,hl⟩:∃l,M.lev x=l:=⟨_,rfl⟩
   obtain⟨lo,hlo⟩:∃lo,M.lowN x=lo:=⟨_,rfl⟩
   obtain⟨hi,hhi⟩:∃hi,M.highN x=hi:=⟨_,rfl⟩
   have ln:l<M.n:=by rw[← hl,Mdl.lev_in o xm];exact o.lv x xm
   have nlo:M.isNode lo:=by rw[← hlo,Mdl.lowN_in o xm];exact(o.lo x xm).1
   have llo:l<M.lev lo:=by rw[← hlo,← hl,Mdl.lowN_in o xm,Mdl.lev_in o xm];exact(o.lo x xm).2
   have nhi:M.isNode hi:=by rw[← hhi,Mdl.highN_in o xm];exact(o.hi x xm).1
   have lhi:l<M.lev hi:=by rw[← hhi,← hl,Mdl.highN_in o xm,Mdl.lev_in o xm];exact(o.hi x xm).2
   have hne:lo≠hi:=by rw[← hlo,← hhi,Mdl.lowN_in o xm,Mdl.highN_in o xm];exact o.ne x xm
   have eT:Aside (tab (M.tbl x)=tab (fun y=>(Rf.M (M.v l) y && M.tbl hi y) || (!Rf.M (M.v l) y && M.tbl lo y))):=Rf.tab_ext fun y _=>by
    show M.val x y.testBit=_;rw[Mdl.val_in o xm,← Mdl.lev_in o xm,← Mdl.lowN_in o xm,← Mdl.highN_in o xm,hl,hlo,hhi,Rf.M_bit];show (if Rf.M (M.v l) y=true then M.tbl hi y else M.tbl lo y)=_;cases Rf.M (M.v l) y <;> simp
   have KLev:∀{w':World},St w' S F0 M→Calls Tryz.prog 63 #[.pointer (some ⟨S,0,none⟩),.int .u32 (x:Int)] w' fun e w''=>e = .returned (.int .i64 (l:Int))∧w''=w':=fun h'=>by rw[← hl,← Mdl.levI_node xn];exact s_level h' x hx
   have KIs:∀{w':World},St w' S F0 M→Calls Tryz.prog 25 #[.pointer (some ⟨S,0,none⟩),.int .u32 (x:Int)] w' fun e w''=>e = .returned (.bool true)∧w''=w':=fun h'=>by rw[show true=M.nodeB x from(Mdl.nodeB_true xn).symm];exact s_is h' x hx
   have KLow:∀{w':World},St w' S F0 M→Calls Tryz.prog 64 #[.pointer (some ⟨S,0,none⟩),.int .u32 (x:Int)] w' fun e w''=>e = .returned (.int .u32 (lo:Int))∧w''=w':=fun h'=>by rw[← hlo];exact s_low h' x hx
   have KHigh:∀{w':World},St w' S F0 M→Calls Tryz.prog 65 #[.pointer (some ⟨S,0,none⟩),.int .u32 (x:Int)] w' fun e w''=>e = .returned (.int .u32 (hi:Int))∧w''=w':=fun h'=>by rw[← hhi];exact s_high h' x hx
   have KW:=@ih xm;rw[hl]at KW hd;clear ih hl hlo hhi;have n8:=o.le8;have hw1:IntKind.i64.wrap ((l:Int)+1)=(l:Int)+1:=by rw[IntKind.wrap_i64];omega
   obtain⟨R,hR⟩:∃R,tab (M.tbl x)=R:=⟨_,rfl⟩
   rw[hR]at eT ⊢;clear hR;have x0:¬(x:Int)=0:=by omega
   have x1:¬(x:Int)=1:=by omega
   have t1:¬(l:Int)<(deep:Int):=by omega
   have t2:¬(M.n:Int)≤(l:Int):=by omega
   have t3:¬l<deep:=by omega
   have t4:¬M.n≤l:=by omega
   have T0:=IsTab.zero (w:=w.alloc (.cells #[.int .u64 0,.int .u64 0,.int .u64 0,.int .u64 0] 24)) (b:=w.heap.size) (Go.Deep.blk_alloc_new _ _);go_enter Tryz.func93,Tryz.ntmps93
   go_upto_region 5 with fail
   have B0:=(Below.refl _ w).alloc (Nat.le_refl _) (.cells #[.int .u64 0,.int .u64 0,.int .u64 0,.int .u64 0] 24);generalize w.alloc (.cells #[.int .u64 0,.int .u64 0,.int .u64 0,.int .u64 0] 24)=w4 at T0 B0 ⊢;have h4:=h.below B0;have tv4:=tv.kept B0;have K1:=KLev h4;have K2:=KIs h4;have K3:=KLow h4;have K4:=KW h4 nlo llo tv4;have bvne:bv≠w.heap.size:=by
    obtain⟨b,off,e,hb⟩:=tv.some (by omega);obtain⟨rfl,rfl⟩:bv=b∧0=off:=by simpa using e
    omega
   have fk:∀k,F0 k→k≠w.heap.size:=fun k hk=>by have:=h.lt k hk;omega
   clear KLev KIs h tv
   go_upto_region 9 with (first
    | (go_at_call 63;refine K1.mono ?_;clear K1;rintro e w5 ⟨rfl,e5⟩;subst w5)
    | (go_at_call 25;refine K2.mono ?_;clear K2;rintro e w5 ⟨rfl,e5⟩;subst w5)
    | (go_at_call 64;refine K3.mono ?_;clear K3;rintro e w5 ⟨rfl,e5⟩;subst w5)
    | (go_at_call 93;refine K4.mono ?_;clear K4;unfold tab;rintro e w5 ⟨rfl,b5⟩))
   have TL:=IsTab.new w5 (M.tbl lo);have B6:=Rf.below_far (Rf.below_far B0 b5) ((Below.refl _ w5).alloc (Nat.le_refl _) (.cells #[.int .u64 (word (M.tbl lo) 0:Int),.int .u64 (word (M.tbl lo) 1:Int),.int .u64 (word (M.tbl lo) 2:Int),.int .u64 (word (M.tbl lo) 3:Int)] 24));have T6:=(kept T0 b5).alloc (.cells #[.int .u64 (word (M.tbl lo) 0:Int),.int .u64 (word (M.tbl lo) 1:Int),.int .u64 (word (M.tbl lo) 2:Int),.int .u64 (word (M.tbl lo) 3:Int)] 24);have hb5:w.heap.size<w5.heap.size:=Nat.lt_of_lt_of_le T0.lt b5.size
   have h6:=(h4.below b5).new (.cells #[.int .u64 (word (M.tbl lo) 0:Int),.int .u64 (word (M.tbl lo) 1:Int),.int .u64 (word (M.tbl lo) 2:Int),.int .u64 (word (M.tbl lo) 3:Int)] 24);have tv6:=(tv4.kept b5).kept ((Below.refl _ w5).alloc (Nat.le_refl _) (.cells #[.int .u64 (word (M.tbl lo) 0:Int),.int .u64 (word (M.tbl lo) 1:Int),.int .u64 (word (M.tbl lo) 2:Int),.int .u64 (word (M.tbl lo) 3:Int)] 24));generalize hL:w5.heap.size=bl at TL hb5 ⊢
   generalize w5.alloc (.cells #[.int .u64 (word (M.tbl lo) 0:Int),.int .u64 (word (M.tbl lo) 1:Int),.int .u64 (word (M.tbl lo) 2:Int),.int .u64 (word (M.tbl lo) 3:Int)] 24)=w6 at TL B6 T6 h6 tv6 ⊢;clear T0 B0 h4 tv4 b5 hL;have K5:=KHigh h6;have K6:=KW h6 nhi lhi tv6;clear KW
   go_upto_region 10 with (first
    | (go_at_call 65;refine K5.mono ?_;clear K5;rintro e w7 ⟨rfl,e7⟩;subst w7)
    | (go_at_call 93;refine K6.mono ?_;clear K6;unfold tab;rintro e w7 ⟨rfl,b7⟩))
   have TH:=IsTab.new w7 (M.tbl hi);have B7:=((Below.refl _ w7).alloc (Nat.le_refl _) (.cells #[.int .u64 (word (M.tbl hi) 0:Int),.int .u64 (word (M.tbl hi) 1:Int),.int .u64 (word (M.tbl hi) 2:Int),.int .u64 (word (M.tbl hi) 3:Int)] 24))
   have B8:=Rf.below_far (Rf.below_far B6 b7) B7;have T8:=kept (kept T6 b7) B7;have L8:=kept (kept TL b7) B7;have hb7:w.heap.size<w7.heap.size:=Nat.lt_of_lt_of_le T6.lt b7.size;have h8:=(h6.below b7).below B7;have tv8:=(tv6.kept b7).kept B7;generalize hH:w7.heap.size=bh at TH hb7 ⊢;generalize w7.alloc (.cells #[.int .u64 (word (M.tbl hi) 0:Int),.int .u64 (word (M.tbl hi) 1:Int),.int .u64 (word (M.tbl hi) 2:Int),.int .u64 (word (M.tbl hi) 3:Int)] 24)=w8 at TH B8 T8 L8 h8 tv8 ⊢;clear T6 TL B6 h6 tv6 b7 hH B7;obtain⟨q0,q1,q2,q3⟩:=tv8.get ln
   have lw0:∀u,Rf.Sit w8 w.heap.size u→u.cell? ⟨bl,0,none⟩=some (.int .u64 (word (M.tbl lo) 0:Int)):=fun u s=>s.cell L8 (by omega) (by decide)
   have lw1:∀u,Rf.Sit w8 w.heap.size u→u.cell? ⟨bl,1,none⟩=some (.int .u64 (word (M.tbl lo) 1:Int)):=fun u s=>s.cell L8 (by omega) (by decide)
   have lw2:∀u,Rf.Sit w8 w.heap.size u→u.cell? ⟨bl,2,none⟩=some (.int .u64 (word (M.tbl lo) 2:Int)):=fun u s=>s.cell L8 (by omega) (by decide)
   have lw3:∀u,Rf.Sit w8 w.heap.size u→u.cell? ⟨bl,3,none⟩=some (.int .u64 (word (M.tbl lo) 3:Int)):=fun u s=>s.cell L8 (by omega) (by decide)
   have hw0:∀u,Rf.Sit w8 w.heap.size u→u.cell? ⟨bh,0,none⟩=some (.int .u64 (word (M.tbl hi) 0:Int)):=fun u s=>s.cell TH (by omega) (by decide)
   have hw1:∀u,Rf.Sit w8 w.heap.size u→u.cell? ⟨bh,1,none⟩=some (.int .u64 (word (M.tbl hi) 1:Int)):=fun u s=>s.cell TH (by omega) (by decide)
   have hw2:∀u,Rf.Sit w8 w.heap.size u→u.cell? ⟨bh,2,none⟩=some (.int .u64 (word (M.tbl hi) 2:Int)):=fun u s=>s.cell TH (by omega) (by decide)
   have hw3:∀u,Rf.Sit w8 w.heap.size u→u.cell? ⟨bh,3,none⟩=some (.int .u64 (word (M.tbl hi) 3:Int)):=fun u s=>s.cell TH (by omega) (by decide)
   have rr0:∀u,Rf.Sit w8 w.heap.size u→u.cell? ⟨w.heap.size,0,none⟩=some (Rf.valAt u w.heap.size 0):=fun u s=>s.place (by decide)
   have rr1:∀u,Rf.Sit w8 w.heap.size u→u.cell? ⟨w.heap.size,1,none⟩=some (Rf.valAt u w.heap.size 1):=fun u s=>s.place (by decide)
   have rr2:∀u,Rf.Sit w8 w.heap.size u→u.cell? ⟨w.heap.size,2,none⟩=some (Rf.valAt u w.heap.size 2):=fun u s=>s.place (by decide)
   have rr3:∀u,Rf.Sit w8 w.heap.size u→u.cell? ⟨w.heap.size,3,none⟩=some (Rf.valAt u w.heap.size 3):=fun u s=>s.place (by decide)
   have rf:∀k u,Rf.Sit w8 w.heap.size u→u.frozen? ⟨w.heap.size,k,none⟩=false:=fun k u s=>s.free k
   have bvl:bv<w8.heap.size:=by
    obtain⟨b,off,e,hb⟩:=tv8.some (by omega);obtain⟨rfl,rfl⟩:bv=b∧0=off:=by simpa using e
    exact hb
   have cv:∀u,Rf.Sit w8 w.heap.size u→∀k,u.cell? ⟨bv,k,none⟩=w8.cell? ⟨bv,k,none⟩:=fun u s k=>by
    have e:=s.turned.block bv bvl bvne;simp only[World.cell?,e]
   have vw0:∀u,Rf.Sit w8 w.heap.size u→u.cell? ⟨bv,l*4,none⟩=some (.int .u64 (word (Rf.M (M.v l)) 0:Int)):=fun u s=>by rw[cv u s];simpa using q0
   have vw1:∀u,Rf.Sit w8 w.heap.size u→u.cell? ⟨bv,l*4+1,none⟩=some (.int .u64 (word (Rf.M (M.v l)) 1:Int)):=fun u s=>by rw[cv u s];simpa using q1
   have vw2:∀u,Rf.Sit w8 w.heap.size u→u.cell? ⟨bv,l*4+2,none⟩=some (.int .u64 (word (Rf.M (M.v l)) 2:Int)):=fun u s=>by rw[cv u s];simpa using q2
   have vw3:∀u,Rf.Sit w8 w.heap.size u→u.cell? ⟨bv,l*4+3,none⟩=some (.int .u64 (word (Rf.M (M.v l)) 3:Int)):=fun u s=>by rw[cv u s];simpa using q3
   have hS:∀u,Rf.Sit w8 w.heap.size u→St u S F0 M:=fun u s=>h8.kept fun k hk=>s.turned.block k (h8.lt k hk) (fk k hk)
   have hne2:¬(lo:Int)=(hi:Int):=by omega
   clear q0 q1 q2 q3 cv
   go_region_held3 (fun u=>Rf.Sit w8 w.heap.size u) (first|assumption|exact Rf.Sit.start T8|exact Rf.Sit.call (by assumption) (by assumption)|exact Rf.Sit.laid (by assumption) _) (first
    | (go_at_call 64;refine(KLow (hS _ (by assumption))).mono ?_;rintro e w9 ⟨rfl,e9⟩;subst w9)
    | (go_at_call 65;refine(KHigh (hS _ (by assumption))).mono ?_;rintro e w9 ⟨rfl,e9⟩;subst w9)
    | (go_at_call 111;refine(Rf.ite_any (Rf.M (M.v l)) (M.tbl hi) (M.tbl lo) _).mono ?_;unfold tab;rintro e w9 ⟨rfl,b9⟩))
   have S9:=Rf.Sit.call b9 (Rf.Sit.start T8);obtain⟨F',hF'⟩:=S9.room;have en:((lo:Int) != (hi:Int))=true:=by simp[hne2]
   rw[en]
   go_wp2_with fail
   exact bodyPost_ret (results_tab2 rfl rfl rfl (Rf.laid_tab hF' _)) rfl ⟨by rw[eT.out];rfl,B8.trans ((S9.laid _).turned.below B8.size (Nat.le_refl _))⟩
theorem walk_any (d:Nat):∀{w:World}{S:Nat}{F0:Nat→Prop}{M:Mdl}{x deep bv capv:Nat},St w S F0 M→M.isNode x→deep≤M.lev x→TabsAt w (some ⟨bv,0,none⟩) M.n (fun i=>Rf.M (M.v i))→M.n-M.lev x≤d →
  Calls Tryz.prog 93 #[.pointer (some ⟨S,0,none⟩),.int .u32 (x:Int),.slice (some ⟨bv,0,none⟩) M.n capv,.int .i64 (deep:Int)] w fun e w'=>e = .returned (.tuple #[tab (M.tbl x),.bool true])∧Below w.heap.size w w':=by
 induction d with
 | zero =>
  intro w S F0 M x deep bv capv h xn hd tv hf;refine walk_step h xn hd tv fun xm=>?_
  have:=h.ok.lv x xm;rw[Mdl.lev_in h.ok xm]at hf;omega
 | succ d ih =>
  intro w S F0 M x deep bv capv h xn hd tv hf;refine walk_step h xn hd tv fun xm=>?_
  intro w' y h' yn hy tv';exact ih (deep:=M.lev x+1) h' yn hy tv' (by have:=Mdl.lev_le h.ok yn;omega)
end Go.Proofs.YtnnmdkaoiofabaaGreat
namespace Go.Proofs.YtnnmdkaoiofabaaGreat
open Go Go.RowKit
open Rf (tab word same IsTab TabsAt Own blockOf append_tab block_after)
open Rf (gval gval_pos gval_neg does_val does_call does_if vok_plain vok_sure vok_maybe x_move x_load x_bin x_call x_pick x_assign run_load24)
def vtabs (M:Mdl) (k:Nat):List (Nat→Bool):=(List.range k).map fun i=>Rf.M (M.v i)
theorem vtabs_len (M:Mdl) (k:Nat):(vtabs M k).length=k:=by simp[vtabs]
theorem vtabs_next (M:Mdl) (k:Nat):vtabs M (k+1)=vtabs M k ++ [Rf.M (M.v k)]:=by simp[vtabs,List.range_succ]
theorem vtabs_get (M:Mdl){k i:Nat}(h:i<k):(vtabs M k).getD i (fun _=>false)=Rf.M (M.v i):=by
 simp[vtabs,List.getD_eq_getElem?_getD,h]
theorem tabs_to {w:World}{ad:Option Addr}{n:Nat}{T T':Nat→Nat→Bool}(h:TabsAt w ad n T) (e:∀i,i<n→T i=T' i):TabsAt w ad n T':=by
 rcases h with h|⟨b,off,e1,hb,hc⟩
 ·exact .inl h
 ·exact .inr ⟨b,off,e1,hb,fun i hi k hk=>by rw[← e i hi];exact hc i hi k hk⟩
structure FuncI (w wr:World) (S:Nat) (F0:Nat→Prop) (M:Mdl) (rb k:Nat) (ad:Option Addr) (cap:Nat):Prop where
 own:Own wr w.heap.size ad (vtabs M k) cap
 row:wr.rowIs rb 3 M.n (fun i=>.int .i64 (M.v i:Int))
 tab:IsTab wr w.heap.size (fun _=>false)
 st:St wr S F0 M
 below:Below w.heap.size w wr
 n1:blockOf ad≠some w.heap.size
 n2:blockOf ad≠some rb
 some:0<k→∃g,ad=some ⟨g,0,none⟩
theorem FuncI.add {w wr w6 w7:World}{S:Nat}{F0:Nat→Prop}{M:Mdl}{rb k:Nat}{ad:Option Addr}{cap g cap':Nat}(I:FuncI w wr S F0 M rb k ad cap) (flt:∀b,F0 b→b<w.heap.size) (b6:Below wr.heap.size wr w6)
  (o7:Own w7 w.heap.size (.some ⟨g,0,none⟩) (vtabs M k ++ [Rf.M (M.v k)]) cap') (g7:w6.grownBy w7 (blockOf ad)) (at7:blockOf ad=Option.some g∨g=w6.heap.size):FuncI w w7 S F0 M rb (k+1) (.some ⟨g,0,none⟩) cap':=by
 have bk:∀b,b<wr.heap.size→blockOf ad≠Option.some b→w7.heap[b]? = wr.heap[b]?:=fun b hb hn=>(g7.block b (Nat.lt_of_lt_of_le hb b6.size) fun e=>hn e.symm).trans (b6.block b hb)
 have nF:∀b,F0 b→blockOf ad≠Option.some b:=fun b hb e=>by
  have:=(I.own.blockGe b e).1;have:=flt b hb;omega
 refine⟨by rw[vtabs_next];exact o7,I.row.of_block (bk rb I.row.lt I.n2),?_,I.st.kept fun b hb=>bk b (I.st.lt b hb) (nF b hb),⟨g7.os.trans (b6.os.trans I.below.os),g7.tape.trans (b6.tape.trans I.below.tape),g7.output.trans (b6.output.trans I.below.output),Nat.le_trans I.below.size (Nat.le_trans b6.size g7.size),fun b hb=>(bk b (Nat.lt_of_lt_of_le hb I.below.size) fun e=>?_).trans (I.below.block b hb)⟩,?_,?_,fun _=>⟨g,rfl⟩⟩
 ·exact(bk _ I.tab.lt I.n1).trans I.tab
 ·have:=(I.own.blockGe b e).1;omega
 ·exact block_after I.n1 (Nat.lt_of_lt_of_le I.tab.lt b6.size) at7
 ·exact block_after I.n2 (Nat.lt_of_lt_of_le I.row.lt b6.size) at7
set_option maxRecDepth 100000 in
set_option maxHeartbeats 2000000 in
theorem func_any {w:World}{S:Nat}{F0:Nat→Prop}{M:Mdl}{x:Nat}(h:St w S F0 M) (xn:M.isNode x) :
  Calls Tryz.prog 61 #[.pointer (some ⟨S,0,none⟩),.int .u32 (x:Int)] w fun e w'=>e = .returned (.tuple #[tab (M.tbl x),.bool true])∧Below w.heap.size w w':=by
 have o:=h.ok;have n8:=o.le8;have n1:=o.pos;have hv:∀k,k<M.n→M.v k<8:=fun k hk=>by have:=o.vlt k hk;omega
 have flt:Aside (∀b,F0 b→b<w.heap.size):=h.lt;obtain⟨R,hR⟩:∃R,tab (M.tbl x)=R:=⟨_,rfl⟩
 have eT:Aside (R=tab (M.tbl x)):=hR.symm;rw[hR];clear hR;have T0:=IsTab.zero (w:=w.alloc (.cells #[.int .u64 0,.int .u64 0,.int .u64 0,.int .u64 0] 24)) (b:=w.heap.size) (Go.Deep.blk_alloc_new _ _);go_enter Tryz.func61,Tryz.ntmps61
 go_upto_region 1 with fail
 have B0:=(Below.refl _ w).alloc (Nat.le_refl _) (.cells #[.int .u64 0,.int .u64 0,.int .u64 0,.int .u64 0] 24);generalize w.alloc (.cells #[.int .u64 0,.int .u64 0,.int .u64 0,.int .u64 0] 24)=w4 at T0 B0 ⊢;have h4:=h.below B0;have K1:=s_order h4;clear h
 go_wp2_with (first
  | (go_at_call 14;refine K1.mono ?_;clear K1;rintro e w1 ⟨P,l,rfl,o1,b1,p1⟩;have K2:=Od.all_any o1 n8)
  | (go_at_call 15;refine K2.mono ?_;clear K2;rintro e w2 ⟨rfl,r2,b2⟩))
 have I0:Aside (FuncI w w2 S F0 M w1.heap.size 0 none 0):=⟨Own.nil _ _,r2,kept T0 (Rf.below_far b1 b2),h4.below (Rf.below_far b1 b2),Rf.below_far B0 (Rf.below_far b1 b2),by simp[blockOf],by simp[blockOf],fun e=>absurd e (by omega)⟩
 generalize w1.heap.size=rb at I0 ⊢;clear r2 T0 h4 o1 b1 b2 B0 p1;go_loopg [7,8] M.n (fun gk s7 s8 wr=>∃k ad cap,k+gk=M.n∧s7 = .slice ad k cap∧s8 = .int .i64 (k:Int)∧FuncI w wr S F0 M rb k ad cap)
 case atStart=>exact⟨0,none,0,by omega,rfl,rfl,I0.out⟩
 case round =>
  clear I0;obtain⟨k,ad,cap,hk,rfl,rfl,I⟩:=hrel;have hK:Aside (k+gk=M.n):=hk;clear hk;by_cases hlt:k<M.n
  ·have hlt':(k:Int)<(M.n:Int):=by omega
   have k8:k<8:=by omega
   have c0:=I.row.cell hlt;have hvk:=hv k hlt;have KV:=Rf.var_any (M.v k) hvk;have lenA:Aside ((vtabs M k).length=k):=vtabs_len M k
   go_wp2_with (first
    | (go_at_call 33;refine(KV _).mono ?_;clear KV;unfold tab;rintro e w5 ⟨rfl,b5⟩;have O5:=I.own.below b5;have B5:=Rf.below_far b5 ((Below.refl _ w5).alloc (Nat.le_refl _) (.cells #[.int .u64 (word (Rf.M (M.v k)) 0:Int),.int .u64 (word (Rf.M (M.v k)) 1:Int),.int .u64 (word (Rf.M (M.v k)) 2:Int),.int .u64 (word (Rf.M (M.v k)) 3:Int)] 24));have s5:w.heap.size≤w5.heap.size:=Nat.le_trans I.below.size b5.size)
    | (at_builtin;refine append_tab (O5.new _) (Rf.M (M.v k)) w5.heap.size (IsTab.new w5 _) (by rw[lenA.out];omega) (by simp;omega) rfl _ _ rfl (by rw[lenA.out];rfl) rfl ?_;rw[lenA.out];intro g cap' w7 o7 g7 at7 lt7;have I7:=I.add flt.out B5 o7 g7 at7))
   go_roundg (gk-1)
   case measure=>have:=hK.out;omega
   case rel =>
    have:=hK.out;exact⟨k+1,some ⟨g,0,none⟩,cap',by omega,rfl,by go_num,I7⟩
  ·obtain rfl:k=M.n:=by have:=hK.out;omega
   have hlt':¬(M.n:Int)<(M.n:Int):=by omega
   obtain⟨bv,rfl⟩:=I.some (by omega);have tv:=I.own.tabs;rw[vtabs_len]at tv;have KW:Calls Tryz.prog 93 #[.pointer (some ⟨S,0,none⟩),.int .u32 (x:Int),.slice (some ⟨bv,0,none⟩) M.n cap,.int .i64 0] wr _:=walk_any (M.n-M.lev x) (deep:=0) I.st xn (Nat.zero_le _) (tabs_to tv fun i hi=>vtabs_get M hi) (Nat.le_refl _);clear tv hK
   go_wp2_with (first
    | (go_at_call 93;refine KW.mono ?_;clear KW;unfold tab;rintro e w5 ⟨rfl,b5⟩;have T5:=kept I.tab b5;have y0:=T5.cell (k:=0) (by decide);have y1:=T5.cell (k:=1) (by decide);have y2:=T5.cell (k:=2) (by decide);have y3:=T5.cell (k:=3) (by decide);have z0:=T5.free 0;have z1:=T5.free 1;have z2:=T5.free 2;have z3:=T5.free 3))
   have B5:=Rf.below_far I.below b5;exact bodyPost_ret (results_tab2 rfl rfl rfl (Rf.laid_tab T5 _)) rfl ⟨by rw[eT.out];rfl,B5.trans ((Rf.laid_turned _ _ _).below B5.size (Nat.le_refl _))⟩
end Go.Proofs.YtnnmdkaoiofabaaGreat
namespace Go.Proofs.YtnnmdkaoiofabaaGreat
open Go Go.RowKit
open Rf (tab word same IsTab TabsAt Own blockOf append_tab block_after)
open Rf (gval gval_pos gval_neg does_val does_call does_if vok_plain vok_sure vok_maybe x_move x_load x_bin x_call x_pick x_assign run_load24)
set_option maxRecDepth 100000 in
set_option maxHeartbeats 2000000 in
theorem isf_any {w:World}{S:Nat}{F0:Nat→Prop}{M:Mdl}{x:Nat}{G:Nat→Bool}(h:St w S F0 M) (xn:M.isNode x) :
  Calls Tryz.prog 23 #[.pointer (some ⟨S,0,none⟩),.int .u32 (x:Int),tab G] w fun e w'=>e = .returned (.bool (same (M.tbl x) G))∧Below w.heap.size w w':=by
 obtain⟨X,hX⟩:∃X,M.tbl x=X:=⟨_,rfl⟩
 have KF:∀{w':World},St w' S F0 M→Calls Tryz.prog 61 #[.pointer (some ⟨S,0,none⟩),.int .u32 (x:Int)] w' fun e w''=>e = .returned (.tuple #[tab X,.bool true])∧Below w'.heap.size w' w'':=fun h'=>by rw[← hX];exact func_any h' xn
 rw[hX];obtain⟨z,hz⟩:∃z,same X G=z:=⟨_,rfl⟩
 have rz:∀w,(binOp .eql 24 (tab X) (tab G)).run Tryz.prog w = .ok (.bool z) w:=fun w=>by rw[← hz];exact run_eqT _ _ w
 rw[hz];clear hX hz
 conv in #[Value.pointer (some ⟨S, 0, none⟩), .int .u32 (x : Int), tab G] => unfold tab
 go_enter Tryz.func23,Tryz.ntmps23
 go_upto_region 1 with fail
 have TG:=IsTab.new w G;have B0:=(Below.refl _ w).alloc (Nat.le_refl _) (.cells #[.int .u64 (word G 0:Int),.int .u64 (word G 1:Int),.int .u64 (word G 2:Int),.int .u64 (word G 3:Int)] 24);generalize w.alloc (.cells #[.int .u64 (word G 0:Int),.int .u64 (word G 1:Int),.int .u64 (word G 2:Int),.int .u64 (word G 3:Int)] 24)=w4 at TG B0 ⊢;have K1:=KF (h.below B0);clear KF
 go_upto_region 2 with (first
  | (go_at_call 61;refine K1.mono ?_;clear K1;unfold tab;rintro e w5 ⟨rfl,b5⟩))
 have TX:=IsTab.new w5 X;have B5:=(Below.refl _ w5).alloc (Nat.le_refl _) (.cells #[.int .u64 (word X 0:Int),.int .u64 (word X 1:Int),.int .u64 (word X 2:Int),.int .u64 (word X 3:Int)] 24);have B6:=Rf.below_far (Rf.below_far B0 b5) B5;have TG6:=kept (kept TG b5) B5;generalize w5.alloc (.cells #[.int .u64 (word X 0:Int),.int .u64 (word X 1:Int),.int .u64 (word X 2:Int),.int .u64 (word X 3:Int)] 24)=w6 at TX B6 TG6 ⊢;generalize w5.heap.size=bx at TX ⊢
 refine Rf.wp_region_valsq (fun u=>u=w6) [(15,.bool true),(16,.bool true),(17,tab X),(18,tab G),(19,.bool z),(20,.bool z),(6,.bool z)] [15,16,17,18,19,20,6] 21 (by kernel_rfl) rfl rfl (by decide) rfl (by decide) rfl ?_ ?_
 ·intro i kk hkk;match i,hkk with
  | 0,hk=>obtain rfl:=Option.some.inj hk;exact vok_plain _ rfl rfl rfl (does_val rfl fun ac u hG hL=>x_move rfl ((hG.other 8 (by decide)).trans rfl))
  | 1,hk=>obtain rfl:=Option.some.inj hk;exact vok_plain _ rfl rfl rfl (does_val rfl fun ac u hG hL=>x_move rfl (hL ⟨0,.data⟩ (by simp) rfl _ rfl))
  | 2,hk=>obtain rfl:=Option.some.inj hk;exact vok_sure _ rfl rfl 1 true 16 rfl ⟨⟨1,.guard⟩,by simp,rfl,rfl⟩ rfl (does_val rfl fun ac u hG hL=>x_load rfl ((hG.other 7 (by decide)).trans rfl) (by obtain rfl:=hG.here;exact run_load24 TX))
  | 3,hk=>obtain rfl:=Option.some.inj hk;exact vok_sure _ rfl rfl 1 true 16 rfl ⟨⟨1,.guard⟩,by simp,rfl,rfl⟩ rfl (does_val rfl fun ac u hG hL=>x_load rfl ((hG.other 5 (by decide)).trans rfl) (by obtain rfl:=hG.here;exact run_load24 TG6))
  | 4,hk=>obtain rfl:=Option.some.inj hk;exact vok_sure _ rfl rfl 1 true 16 rfl ⟨⟨1,.guard⟩,by simp,rfl,rfl⟩ rfl (does_val rfl fun ac u hG hL=>x_bin rfl (hL ⟨2,.data⟩ (by simp) rfl _ rfl) (hL ⟨3,.data⟩ (by simp) rfl _ rfl) (guard_eqT _ _ _ _ _) (rz u))
  | 5,hk=>obtain rfl:=Option.some.inj hk;exact vok_plain _ rfl rfl rfl (does_val rfl fun ac u hG hL=>x_pick (b:=true) rfl (hL ⟨1,.data⟩ (by simp) rfl _ rfl) (hL ⟨4,.data⟩ (by simp) rfl _ rfl))
  | 6,hk=>obtain rfl:=Option.some.inj hk;exact vok_plain _ rfl rfl rfl (does_val rfl fun ac u hG hL=>x_assign rfl (hL ⟨5,.data⟩ (by simp) rfl _ rfl))
  | i+7,hk=>simp at hk
 ·intro w7 hw7;obtain rfl:=hw7;simp only[Rf.vfin,Act.put,List.setIfInBounds_toArray,List.set_cons_succ,List.set_cons_zero]
  go_wp2_with fail
  go_ret
  exact⟨rfl,B6⟩
end Go.Proofs.YtnnmdkaoiofabaaGreat
namespace Go.Proofs.YtnnmdkaoiofabaaGreat
open Go Go.RowKit
open Rf (tab word same IsTab TabsAt fixF fixAt prt dedup IntsAt results_tab laid_tab laid_turned)
def trimF (F:Nat→Bool) (n:Nat):Nat→Nat→Bool
 | 0=>F
 | j+1=>fixF (trimF F n j) (n+j) false
set_option maxHeartbeats 1000000 in
theorem trim_any (F:Nat→Bool) (n:Nat) (hn:n≤8) (w:World) :
  Calls Tryz.prog 10 #[tab F,.int .i64 (n:Int)] w fun e w'=>e = .returned (tab (trimF F n (8-n)))∧Below w.heap.size w w':=by
 have hmx:max (n:Int) 0=(n:Int):=by omega
 conv in #[tab F, Value.int .i64 (n : Int)] => unfold tab
 go_enter Tryz.func10,Tryz.ntmps10
 go_wp2_with fail
 go_loopg [5] (8-n) (fun g s5 wr=>∃j:Nat,j+g=8-n∧s5 = .int .i64 ((n+j:Nat):Int)∧IsTab wr w.heap.size (trimF F n j)∧IsTab wr (w.heap.size+1) (fun _=>false)∧Below w.heap.size w wr)
 case atStart=>exact⟨0,by omega,by simp,(IsTab.new w F).alloc _,IsTab.zeroAt (by simp),((Below.refl _ w).alloc (Nat.le_refl _) _).alloc (by simp) _⟩
 case round =>
  obtain⟨j,hj,rfl,hT,hZ,hB⟩:=hrel;have hJ:Aside (j+gk=8-n):=hj;have hj8:n+j≤8:=by omega
  clear hj;obtain⟨v,hv⟩:∃v,n+j=v:=⟨_,rfl⟩
  have hvA:Aside (n+j=v):=hv;rw[hv]at hj8 ⊢;obtain⟨c0,c1,c2,c3⟩:=hT.copy;by_cases hlt:v<8
  ·have hlt':(v:Int)<8:=by omega
   have KF:=Rf.fix_any (trimF F n j) v hlt false;have eN:Aside (trimF F n (j+1)=fixF (trimF F n j) v false):=by show fixF (trimF F n j) (n+j) false=_;rw[hv]
   clear hv;unfold tab at KF
   go_wp2_with (first
    | (go_at_call 40;refine(KF _).mono ?_;clear KF;rintro e w5 ⟨rfl,b5⟩;have T5:=kept hT b5;have Z5:=kept hZ b5;have y0:=T5.cell (k:=0) (by decide);have y1:=T5.cell (k:=1) (by decide);have y2:=T5.cell (k:=2) (by decide);have y3:=T5.cell (k:=3) (by decide);have z0:=T5.free 0;have z1:=T5.free 1;have z2:=T5.free 2;have z3:=T5.free 3))
   go_roundg (gk-1)
   case measure=>have:=hJ.out;have:=hvA.out;omega
   case rel =>
    have:=hJ.out;have hv:=hvA.out;have B5:=Rf.below_far hB b5;refine⟨j+1,by omega,?_,by rw[eN.out];exact laid_tab T5 _,(laid_turned w5 w.heap.size _).tab Z5 (by omega),B5.trans ((laid_turned _ _ _).below B5.size (Nat.le_refl _))⟩;rw[← hv];go_num
  ·obtain rfl:v=8:=by omega
   obtain rfl:j=8-n:=by have:=hJ.out;omega
   clear hv hJ;have y0:=hZ.cell (k:=0) (by decide);have y1:=hZ.cell (k:=1) (by decide);have y2:=hZ.cell (k:=2) (by decide);have y3:=hZ.cell (k:=3) (by decide);have z0:=hZ.free 0;have z1:=hZ.free 1;have z2:=hZ.free 2;have z3:=hZ.free 3
   go_wp2_with fail
   exact bodyPost_ret (results_tab rfl rfl (laid_tab hZ _)) rfl ⟨rfl,hB.trans ((laid_turned _ _ _).below hB.size (Nat.le_succ _))⟩
theorem size_any (adl:Option Addr) (L capl:Nat) (T:Nat→Nat→Bool) (adv:Option Addr) (n capv:Nat) (V:Nat→Int) (w:World) (hL:L≤1000) (hn:n≤8) (hl:TabsAt w adl L T) (hv:IntsAt w adv n V) :
  Calls Tryz.prog 21 #[.slice adl L capl,.slice adv n capv] w fun e w'=>e = .returned (.int .i64 ((prt V n (dedup T L) (min n 8+1)).1.length:Int))∧Below w.heap.size w w':=by
 have K:=Rf.parts_any adl L capl T adv n capv V w hL (by omega) hl hv;obtain⟨ps,hps⟩:∃ps,(prt V n (dedup T L) (min n 8+1)).1=ps:=⟨_,rfl⟩
 rw[hps]at K ⊢;clear hps;go_enter Tryz.func21,Tryz.ntmps21
 go_wp2_with (first
  | (go_at_call 60;refine K.mono ?_;clear K;rintro e w5 ⟨⟨ad,cap,rfl,o5⟩,b5⟩))
 go_ret
 exact⟨rfl,b5⟩
end Go.Proofs.YtnnmdkaoiofabaaGreat
namespace Go.Proofs.YtnnmdkaoiofabaaGreat
open Go Go.RowKit
section
variable {P:Program}{ops:Array Oper}{Q:Exit→Act→World→Prop}
def ClosedL (ops:Array Oper) (listed:Array Bool):Prop:=∀j o,listed.getD j false=true→ops[j]? = some o→∀e∈o.after,Region.binds .any e=true→listed.getD e.on false=true
theorem wpAny_listed (G:Array Bool→Act→World→Prop) (hw:waitsBack ops=true)
  (step:∀listed i o a w,ops[i]? = some o→listed.size=ops.size→listed.getD i false=false→(∀e∈o.after,Region.binds .any e=true→listed.getD e.on false=true)→ClosedL ops listed→G listed a w→wpOp P ops Q i (fun a' w'=>G (listed.setIfInBounds i true) a' w') a w)
  (done:∀listed a w,(∀i,i<ops.size→listed.getD i false=true)→G listed a w→Q .normal a w) :
  ∀(fuel:Nat) (listed:Array Bool) (a:Act) (w:World),listed.size=ops.size→(toCome ops.size listed).length≤fuel→ClosedL ops listed→G listed a w→wpAny P .any ops Q fuel listed a w:=by
 intro fuel;induction fuel with
 | zero =>
  intro listed a w hn hc _ hG;have hr:Region.ready .any ops listed=[]:=by
   cases hr:Region.ready .any ops listed with
   | nil=>rfl
   | cons i rs =>
    have hi:i∈Region.ready .any ops listed:=by rw[hr];exact List.mem_cons_self
    obtain⟨h1,o,ho,_⟩:=mem_ready.1 hi;have:=toCome_set hn h1;omega
  exact⟨hr,done listed a w (ready_some hw hn hr) hG⟩
 | succ fuel ih =>
  intro listed a w hn hc hL hG;refine⟨fun hr=>done listed a w (ready_some hw hn hr) hG,fun i hi=>?_⟩;obtain⟨h1,o,ho,h2⟩:=mem_ready.1 hi;have hil:listed.getD i false=false:=by
   have hlt:i<listed.size:=by rw[hn];exact(Array.getElem?_eq_some_iff.1 ho).1
   simp[hlt]at h1 ⊢;exact h1
  refine wpOp_mono (fun a' w' g=>?_) (step listed i o a w ho hn hil h2 hL hG);refine ih _ a' w' (by simpa using hn) ?_ ?_ g
  ·have:=toCome_set hn h1;omega
  ·intro j o' hj ho' ed hed hb;by_cases e:i=j
   ·subst e;obtain rfl:o=o':=Option.some.inj (ho.symm.trans ho');exact getD_set_true (h2 ed hed hb)
   ·rw[getD_set_ne false e]at hj;exact getD_set_true (hL j o' hj ho' ed hed hb)
theorem wp_region_listed {id:Nat}{a:Act}{w:World}(hm:P.follows .mixedOrders=true) (G:Array Bool→Act→World→Prop) (hw:waitsBack ops=true)
  (step:∀listed i o a w,ops[i]? = some o→listed.size=ops.size→listed.getD i false=false→(∀e∈o.after,Region.binds .any e=true→listed.getD e.on false=true)→ClosedL ops listed→G listed a w→wpOp P ops Q i (fun a' w'=>G (listed.setIfInBounds i true) a' w') a w)
  (done:∀listed a w,(∀i,i<ops.size→listed.getD i false=true)→G listed a w→Q .normal a w)
  (start:G (Array.replicate ops.size false) a w.drew):(Code.region id ops true).wp P Q a w:=by
 refine wp_region_any hm ?_;change wpAny _ _ _ _ _ _ _ w.drew;refine wpAny_listed G hw step done ops.size _ a w.drew (by simp) ?_ (fun j o hj=>?_) start
 ·unfold toCome;have:=List.length_filter_le (fun j=>!(Array.replicate ops.size false).getD j true) (List.range ops.size);simpa using this
 ·by_cases h:j<ops.size <;> simp[h]at hj
theorem wpOp_plain {i:Nat}{o:Oper}{a:Act}{w:World}{K:Act→World→Prop}(ho:ops[i]? = some o) (hg:o.guard=none) (h:o.wp P a w K Q):wpOp P ops Q i K a w:=by
 have hwant:Region.wanted o (yielded ops a.tmps)=true:=by simp[Region.wanted,hg]
 unfold wpOp;rw[ho];simp only[hwant,if_true];exact .inl h
end
end Go.Proofs.YtnnmdkaoiofabaaGreat
namespace Go.Proofs.YtnnmdkaoiofabaaGreat
open Go Go.RowKit
open Rf (tab word IsTab laid laid_turned laid_tab)
section
variable {w5:World}{bf bg:Nat}{X Y:Nat→Bool}{b:Nat}{val:Nat→Value}{a0:Act}{listed:Array Bool}{a:Act}{w w':World}
theorem getD_start (n j:Nat):(Array.replicate n false).getD j false=false:=by
 by_cases h:j<n <;> simp[h]
end
end Go.Proofs.YtnnmdkaoiofabaaGreat
