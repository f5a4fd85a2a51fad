/-
  The whole plan, without a program: what it holds while it is made, and that it exchanges both levels. The plan when it is made: the store that it lays. The whole plan, made in memory.
-/
import Derived.Test.YtnnmdkaoiofabaaGreatSwRF
namespace Go.Proofs.YtnnmdkaoiofabaaGreat.Sw
open Go
def Deep (M:Mdl) (k c:Nat):Prop:=M.isNode c∧k+1<M.lev c
def JnL (L:List (Nd×Nat)) (k x p q:Nat):Prop:=(p=q∧x=p)∨(p≠q∧((k+1,p,q),x)∈L)
def madeN (M:Mdl) (N:List (Nat×Nd)):Nat:=(N.filter fun p=>decide (p.1 ∉ M.hs)).length
structure PInv (M:Mdl) (k:Nat) (pre:List Nat) (c:Nat) (N:List (Nat×Nd)) (L:List (Nd×Nat)) (last:Nat):Prop where
 keys:(N.map (·.1)).Nodup
 lkeys:(L.map (·.1)).Nodup
 ln:∀d x,(d,x)∈L↔(x,d)∈N∧d.1=k+1
 old:∀x d,(x,d)∈N→x∈M.hs→((M.nd x).1=k+1∧d=(k,(M.nd x).2))∨((M.nd x).1=k∧bothB M k x=false∧d=(k+1,(M.nd x).2))∨(x∈pre∧∃a b,d=(k,a,b)∧JnL L k a (cof M k (M.nd x).2.1 false) (cof M k (M.nd x).2.2 false)∧JnL L k b (cof M k (M.nd x).2.1 true) (cof M k (M.nd x).2.2 true))
 moved:∀x∈M.hs,bothB M k x=false→((M.nd x).1=k+1∨(M.nd x).1=k)→x∈N.map (·.1)
 done:∀x∈pre,x∈N.map (·.1)
 sub:∀x∈pre,x∈M.hs∧bothB M k x=true
 made:∀x d,(x,d)∈N→x ∉ M.hs→d.1=k+1∧d.2.1≠d.2.2∧Deep M k d.2.1∧Deep M k d.2.2∧2≤x∧x≤last
 full:∀z,2≤z→z≤last→z∈M.hs∨z∈N.map (·.1)
 one:1≤last
 few:madeN M N≤c
section
variable {M:Mdl}{k c last x p q:Nat}{pre:List Nat}{N N':List (Nat×Nd)}{L L':List (Nd×Nat)}
theorem JnL.mono (h:JnL L k x p q) (m:∀r∈L,r∈L'):JnL L' k x p q:=h.imp id fun⟨a,b⟩=>⟨a,m _ b⟩
theorem both_iff : bothB M k x=true↔(M.nd x).1=k∧(M.lev (M.nd x).2.1=k+1∨M.lev (M.nd x).2.2=k+1):=by
 unfold bothB;simp
theorem madeN_snoc (N:List (Nat×Nd)) (r:Nat×Nd):madeN M (N ++ [r])=madeN M N+if r.1∈M.hs then 0 else 1:=by
 unfold madeN;rw[List.filter_append,List.length_append,List.filter_cons];by_cases e:r.1∈M.hs
 ·rw[if_neg (by simp[e]),if_pos e];rfl
 ·rw[if_pos (by simp[e]),if_neg e];rfl
theorem mem_key {x:Nat}{d:Nd}(h:(x,d)∈N):x∈N.map (·.1):=List.mem_map.2 ⟨_,h,rfl⟩
theorem key_mem {x:Nat}(h:x∈N.map (·.1)):∃d,(x,d)∈N:=by
 obtain⟨⟨y,d⟩,hm,rfl⟩:=List.mem_map.1 h;exact⟨d,hm⟩
theorem PInv.start (o:M.Ok):PInv M k [] 0 (mvN M k M.hs) (mvL M k M.hs) 1:=by
 have nd:=o.nodup;have hk:∀l:List Nat,l.Nodup→((mvN M k l).map (·.1)).Nodup:=fun l=>by
  induction l with
  | nil=>intro _;exact List.nodup_nil
  | cons a l ih =>
   intro hn;have h1:=List.nodup_cons.1 hn;show ((mvN1 M k a ++ mvN M k l).map (·.1)).Nodup;have hx:∀y∈(mvN M k l).map (·.1),y≠a:=fun y hy e=>by
    obtain⟨d,hd⟩:=key_mem hy;exact h1.1 (e ▸ (mvN_mem.1 hd).1)
   unfold mvN1;split
   ·exact List.nodup_cons.2 ⟨fun h=>hx _ h rfl,ih h1.2⟩
   ·split
    ·exact List.nodup_cons.2 ⟨fun h=>hx _ h rfl,ih h1.2⟩
    ·exact ih h1.2
 have hl:∀l:List Nat,l.Nodup→(∀y∈l,y∈M.hs)→((mvL M k l).map (·.1)).Nodup:=fun l=>by
  induction l with
  | nil=>intro _ _;exact List.nodup_nil
  | cons a l ih =>
   intro hn hs;have h1:=List.nodup_cons.1 hn;show ((mvL1 M k a ++ mvL M k l).map (·.1)).Nodup;unfold mvL1;split
   ·next ca =>
    refine List.nodup_cons.2 ⟨fun h=>?_,ih h1.2 fun y hy=>hs y (List.mem_cons_of_mem _ hy)⟩;obtain⟨⟨d,y⟩,hm,hd⟩:=List.mem_map.1 h;obtain⟨hy,cy,_,ey⟩:=mvL_mem.1 hm;change d=(k+1,(M.nd a).2)at hd;rw[hd]at ey;have e2:(M.nd a).2=(M.nd y).2:=(Prod.mk.inj ey).2;have:=o.one a (hs a (by simp)) y (hs y (List.mem_cons_of_mem _ hy)) (Prod.ext (by rw[ca.1,cy]) e2);exact h1.1 (this ▸ hy)
   ·exact ih h1.2 fun y hy=>hs y (List.mem_cons_of_mem _ hy)
 refine⟨hk _ nd,hl _ nd fun _ h=>h,fun d x=>?_,fun x d hm hx=>?_,fun x hx hb hl=>?_,fun x hx=>absurd hx List.not_mem_nil,fun x hx=>absurd hx List.not_mem_nil,fun x d hm hx=>absurd (mvN_mem.1 hm).1 hx,fun z h1 h2=>by omega,Nat.le_refl _,?_⟩
 ·rw[mvL_mem,mvN_mem];constructor
  ·rintro⟨a,b,e,rfl⟩;exact⟨⟨a,.inr ⟨b,e,rfl⟩⟩,rfl⟩
  ·rintro⟨⟨a,⟨b,rfl⟩|⟨b,e,rfl⟩⟩,h⟩
   ·simp only at h;omega
   ·exact⟨a,b,e,rfl⟩
 ·rcases(mvN_mem.1 hm).2 with h|h
  ·exact .inl h
  ·exact .inr (.inl h)
 ·rcases hl with h|h
  ·exact mem_key (mvN_mem.2 ⟨hx,.inl ⟨h,rfl⟩⟩)
  ·exact mem_key (mvN_mem.2 ⟨hx,.inr ⟨h,hb,rfl⟩⟩)
 ·have:(mvN M k M.hs).filter (fun p=>decide (p.1 ∉ M.hs))=[]:=by
   rw[List.filter_eq_nil_iff];rintro⟨x,d⟩ hm;simp[(mvN_mem.1 hm).1]
  unfold madeN;rw[this];exact Nat.le_refl _
theorem PInv.keys_in (h:PInv M k pre c N L last):∀y∈N.map (·.1),M.isNode y∨y≤last:=fun y hy=>by
 obtain⟨d,hd⟩:=key_mem hy;by_cases e:y∈M.hs
 ·exact .inl (.inr e)
 ·exact .inr (h.made y d hd e).2.2.2.2.2
theorem PInv.join (h:PInv M k pre c N L last){last':Nat}(dp:Deep M k p) (dq:Deep M k q) (j:JnS M k p q N L last x N' L' last'):PInv M k pre (c+1) N' L' last'∧JnL L' k x p q∧∀r∈L,r∈L':=by
 rcases j with ⟨e,rfl,rfl,rfl,rfl⟩|⟨e,hm,rfl,rfl,rfl⟩|⟨e,hn,h1,h2,h3,rfl,rfl,el⟩
 ·exact⟨{ h with few:=Nat.le_succ_of_le h.few },.inl ⟨e,rfl⟩,fun _ r=>r⟩
 ·exact⟨{ h with few:=Nat.le_succ_of_le h.few },.inr ⟨e,hm⟩,fun _ r=>r⟩
 ·obtain rfl:x=last':=el.symm;have hx:x ∉ M.hs:=fun m=>h2 (.inr m)
  have hx2:2≤x:=by have:=h.one;omega
  have hxk:x ∉ N.map (·.1):=fun m=>(h.keys_in x m).elim h2 fun m=>by omega
  have sub:∀r∈L,r∈L ++ [((k+1,p,q),x)]:=fun r hr=>List.mem_append.2 (.inl hr)
  have subN:∀r∈N,r∈N ++ [(x,(k+1,p,q))]:=fun r hr=>List.mem_append.2 (.inl hr)
  have subK:∀y∈N.map (·.1),y∈(N ++ [(x,(k+1,p,q))]).map (·.1):=fun y hy=>by rw[List.map_append];exact List.mem_append.2 (.inl hy)
  refine⟨⟨?_,?_,fun d y=>?_,fun y d hm hy=>?_,fun y hy hb hl=>subK y (h.moved y hy hb hl),fun y hy=>subK y (h.done y hy),h.sub,fun y d hm hy=>?_,fun z hz1 hz2=>?_,by have:=h.one;omega,?_⟩,.inr ⟨e,by simp⟩,sub⟩
  ·rw[List.map_append,List.nodup_append];refine⟨h.keys,by simp,fun a ha b hb q=>?_⟩;simp at hb;subst hb;exact hxk (q ▸ ha)
  ·rw[List.map_append,List.nodup_append];refine⟨h.lkeys,by simp,fun a ha b hb q=>?_⟩;simp only[List.map_cons,List.map_nil,List.mem_singleton]at hb;subst hb;exact hn (q ▸ ha)
  ·rw[List.mem_append,List.mem_append,List.mem_singleton,List.mem_singleton,h.ln d y];constructor
   ·rintro(⟨a,b⟩|a)
    ·exact⟨.inl a,b⟩
    ·obtain⟨rfl,rfl⟩:=Prod.mk.inj a;exact⟨.inr rfl,rfl⟩
   ·rintro⟨a|a,b⟩
    ·exact .inl ⟨a,b⟩
    ·obtain⟨rfl,rfl⟩:=Prod.mk.inj a;exact .inr rfl
  ·rcases List.mem_append.1 hm with hm|hm
   ·refine(h.old y d hm hy).imp id (Or.imp id ?_);rintro⟨a,s,t,b1,b2,b3⟩;exact⟨a,s,t,b1,b2.mono sub,b3.mono sub⟩
   ·obtain⟨rfl,rfl⟩:=Prod.mk.inj (List.mem_singleton.1 hm);exact absurd hy hx
  ·rcases List.mem_append.1 hm with hm|hm
   ·obtain⟨a1,a2,a3,a4,a5,a6⟩:=h.made y d hm hy;exact⟨a1,a2,a3,a4,a5,by omega⟩
   ·obtain⟨rfl,rfl⟩:=Prod.mk.inj (List.mem_singleton.1 hm);exact⟨rfl,e,dp,dq,hx2,Nat.le_refl _⟩
  ·by_cases e1:z≤last
   ·exact(h.full z hz1 e1).imp id (subK z)
   ·by_cases e2:z=x
    ·right;rw[e2,List.map_append];exact List.mem_append.2 (.inr (by simp))
    ·exact .inl ((h3 z (by omega) (by omega)).resolve_left (by omega))
  ·rw[madeN_snoc,if_neg hx];have:=h.few;omega
theorem PInv.lay (h:PInv M k pre c N L last) (hx:x∈M.hs) (hb:bothB M k x=true) (hn:x ∉ pre){a b:Nat}(j0:JnL L k a (cof M k (M.nd x).2.1 false) (cof M k (M.nd x).2.2 false)) (j1:JnL L k b (cof M k (M.nd x).2.1 true) (cof M k (M.nd x).2.2 true)):PInv M k (pre ++ [x]) c (N ++ [(x,(k,a,b))]) L last∧x ∉ N.map (·.1)∧(k,a,b) ∉ L.map (·.1):=by
 have bk:=(both_iff.1 hb).1;have hxk:x ∉ N.map (·.1):=fun m=>by
  obtain⟨d,hd⟩:=key_mem m;rcases h.old x d hd hx with ⟨e,_⟩|⟨_,e,_⟩|⟨e,_⟩
  ·omega
  ·rw[hb]at e;cases e
  ·exact hn e
 have subK:∀y∈N.map (·.1),y∈(N ++ [(x,(k,a,b))]).map (·.1):=fun y hy=>by rw[List.map_append];exact List.mem_append.2 (.inl hy)
 refine⟨⟨?_,h.lkeys,fun d y=>?_,fun y d hm hy=>?_,fun y hy hb hl=>subK y (h.moved y hy hb hl),fun y hy=>?_,fun y hy=>?_,fun y d hm hy=>?_,fun z hz1 hz2=>(h.full z hz1 hz2).imp id (subK z),h.one,?_⟩,hxk,fun m=>?_⟩
 ·rw[List.map_append,List.nodup_append];refine⟨h.keys,by simp,fun s hs t ht q=>?_⟩;simp at ht;subst ht;exact hxk (q ▸ hs)
 ·rw[h.ln d y,List.mem_append,List.mem_singleton];constructor
  ·rintro⟨s,t⟩;exact⟨.inl s,t⟩
  ·rintro⟨s|s,t⟩
   ·exact⟨s,t⟩
   ·obtain⟨rfl,rfl⟩:=Prod.mk.inj s;simp only at t;omega
 ·rcases List.mem_append.1 hm with hm|hm
  ·refine(h.old y d hm hy).imp id (Or.imp id ?_);rintro⟨s,t⟩;exact⟨List.mem_append.2 (.inl s),t⟩
  ·obtain⟨rfl,rfl⟩:=Prod.mk.inj (List.mem_singleton.1 hm);exact .inr (.inr ⟨by simp,a,b,rfl,j0,j1⟩)
 ·rcases List.mem_append.1 hy with hy|hy
  ·exact subK y (h.done y hy)
  ·rw[List.mem_singleton]at hy;subst hy;rw[List.map_append];exact List.mem_append.2 (.inr (by simp))
 ·rcases List.mem_append.1 hy with hy|hy
  ·exact h.sub y hy
  ·rw[List.mem_singleton]at hy;subst hy;exact⟨hx,hb⟩
 ·rcases List.mem_append.1 hm with hm|hm
  ·exact h.made y d hm hy
  ·obtain⟨rfl,rfl⟩:=Prod.mk.inj (List.mem_singleton.1 hm);exact absurd hx hy
 ·rw[madeN_snoc,if_pos hx];exact h.few
 ·obtain⟨⟨d,y⟩,hm,hd⟩:=List.mem_map.1 m;change d=(k,a,b)at hd;have:=((h.ln d y).1 hm).2;rw[hd]at this;simp only at this;omega
end
end Go.Proofs.YtnnmdkaoiofabaaGreat.Sw
namespace Go.Proofs.YtnnmdkaoiofabaaGreat.Sw
open Go
def laidM (M:Mdl) (k:Nat) (N:List (Nat×Nd)):Mdl:=⟨M.n,swv M.v k,M.room,(List.range (2+M.room)).filter (fun x=>decide (x∈M.hs∨x∈N.map (·.1))),fun x=>(N.lookup x).getD (M.nd x)⟩
def atLev (M:Mdl) (k:Nat):Nat:=(M.hs.filter fun h=>decide ((M.nd h).1=k)).length
section
variable {M:Mdl}{k c last x:Nat}{pre:List Nat}{N:List (Nat×Nd)}{L:List (Nd×Nat)}
theorem look_of : ∀{N:List (Nat×Nd)},(N.map (·.1)).Nodup→∀{x d},(x,d)∈N→N.lookup x=some d
 | [],_,_,_,h=>absurd h List.not_mem_nil
 | (y,e) :: N,hn,x,d,h=>by
  have h1:=List.nodup_cons.1 (show (y :: N.map (·.1)).Nodup from hn);rcases List.mem_cons.1 h with q|q
  ·obtain⟨rfl,rfl⟩:=Prod.mk.inj q;simp[List.lookup]
  ·have:x≠y:=fun e=>h1.1 (e ▸ List.mem_map.2 ⟨_,q,rfl⟩)
   have e2:(x == y)=false:=by rw[beq_eq_false_iff_ne];exact this
   simp only[List.lookup,e2];exact look_of h1.2 q
theorem look_no : ∀{N:List (Nat×Nd)}{x},x ∉ N.map (·.1)→N.lookup x=none
 | [],_,_=>rfl
 | (y,e) :: N,x,h=>by
  rw[List.map_cons,List.mem_cons,not_or]at h;have e2:(x == y)=false:=by rw[beq_eq_false_iff_ne];exact h.1
  simp only[List.lookup,e2];exact look_no h.2
theorem laid_in (h:(N.map (·.1)).Nodup){d:Nd}(hx:(x,d)∈N):(laidM M k N).nd x=d:=by
 show (N.lookup x).getD (M.nd x)=d;rw[look_of h hx];rfl
theorem laid_no (hx:x ∉ N.map (·.1)):(laidM M k N).nd x=M.nd x:=by
 show (N.lookup x).getD (M.nd x)=_;rw[look_no hx];rfl
theorem PInv.last_le (h:PInv M k pre c N L last):last≤1+(M.hs.length+c):=by
 have hn:(List.range' 2 (last-1)).Nodup:=List.nodup_range';have:=len_sub hn (b:=M.hs ++ (N.filter fun p=>decide (p.1 ∉ M.hs)).map (·.1)) fun z hz=>by
  have hz':=List.mem_range'_1.1 hz;by_cases e:z∈M.hs
  ·exact List.mem_append.2 (.inl e)
  ·obtain⟨d,hd⟩:=key_mem ((h.full z hz'.1 (by omega)).resolve_left e);exact List.mem_append.2 (.inr (List.mem_map.2 ⟨_,List.mem_filter.2 ⟨hd,by simpa using e⟩,rfl⟩))
 rw[List.length_range',List.length_append,List.length_map]at this;have f:=h.few;unfold madeN at f;omega
theorem PInv.laid_len (h:PInv M k pre c N L last):(laidM M k N).hs.length≤M.hs.length+c:=by
 have:=len_sub (a:=(laidM M k N).hs) (List.nodup_range.filter _) (b:=M.hs ++ (N.filter fun p=>decide (p.1 ∉ M.hs)).map (·.1)) fun z hz=>by
  have hz':=(List.mem_filter.1 hz).2;simp only[decide_eq_true_eq]at hz';by_cases e:z∈M.hs
  ·exact List.mem_append.2 (.inl e)
  ·obtain⟨d,hd⟩:=key_mem (hz'.resolve_left e);exact List.mem_append.2 (.inr (List.mem_map.2 ⟨_,List.mem_filter.2 ⟨hd,by simpa using e⟩,rfl⟩))
 rw[List.length_append,List.length_map]at this;have f:=h.few;unfold madeN at f;omega
theorem PInv.plan (h:PInv M k (mvB M k M.hs) c N L last) (o:M.Ok) (kn:k+1<M.n) (top:∀x∈M.hs,x<2+M.room) (r2:M.room≤32768) (room:M.hs.length+c≤M.room):Plan M k (laidM M k N):=by
 have hmem:∀x,x∈(laidM M k N).hs↔x∈M.hs∨x∈N.map (·.1):=fun x=>by
  show x∈(List.range (2+M.room)).filter _↔_;rw[List.mem_filter,List.mem_range,decide_eq_true_iff];refine⟨fun e=>e.2,fun e=>⟨?_,e⟩⟩;by_cases i:x∈M.hs
  ·exact top x i
  ·obtain⟨d,hd⟩:=key_mem (e.resolve_left i);have:=(h.made x d hd i).2.2.2.2.2;have:=h.last_le;omega
 have key:∀x∈M.hs,((M.nd x).1=k+1∨(M.nd x).1=k)→x∈N.map (·.1):=fun x hx hl=>by
  by_cases b:bothB M k x=true
  ·exact h.done x (mvB_mem.2 ⟨hx,b⟩)
  ·exact h.moved x hx (by simpa using b) hl
 have nokey:∀x∈M.hs,(M.nd x).1≠k→(M.nd x).1≠k+1→x ∉ N.map (·.1):=fun x hx a b m=>by
  obtain⟨d,hd⟩:=key_mem m;rcases h.old x d hd hx with ⟨e,_⟩|⟨e,_⟩|⟨e,_⟩
  ·exact b e
  ·exact a e
  ·exact a (both_iff.1 (h.sub x e).2).1
 have low:∀x∈(laidM M k N).hs,((laidM M k N).nd x).1=k+1→(x,(laidM M k N).nd x)∈N:=fun x hx e=>by
  by_cases m:x∈N.map (·.1)
  ·obtain⟨d,hd⟩:=key_mem m;rw[laid_in h.keys hd];exact hd
  ·rw[laid_no m]at e;exact absurd (key x (((hmem x).1 hx).resolve_right m) (.inl e)) m
 have jn:∀{x p q:Nat},JnL L k x p q→Jn (laidM M k N) k x p q:=fun {x p q} j=>j.imp id fun⟨a,b⟩=>by
  have:=((h.ln _ _).1 b).1;exact⟨a,(hmem x).2 (.inr (mem_key this)),laid_in h.keys this⟩
 refine⟨kn,rfl,rfl,rfl,List.pairwise_lt_range.filter _,fun x hx=>?_,Nat.le_trans h.laid_len room,fun x hx=>(hmem x).2 (.inl hx),fun x hx a b=>laid_no (nokey x hx a b),fun x hx e=>?_,fun x hx e a b=>?_,fun x hx e q=>?_,fun x hx hn=>?_,fun x hx y hy e eq=>?_⟩
 ·have hl:x<2+M.room:=List.mem_range.1 (List.mem_filter.1 hx).1;refine⟨?_,by omega⟩;rcases(hmem x).1 hx with i|i
  ·exact(o.range x i).1
  ·by_cases i':x∈M.hs
   ·exact(o.range x i').1
   ·obtain⟨d,hd⟩:=key_mem i;exact(h.made x d hd i').2.2.2.2.1
 ·obtain⟨d,hd⟩:=key_mem (key x hx (.inl e));rw[laid_in h.keys hd];rcases h.old x d hd hx with ⟨_,r⟩|⟨r,_⟩|⟨r,_⟩
  ·exact r
  ·omega
  ·have:=(both_iff.1 (h.sub x r).2).1;omega
 ·obtain⟨d,hd⟩:=key_mem (key x hx (.inr e));rw[laid_in h.keys hd];rcases h.old x d hd hx with ⟨r,_⟩|⟨_,_,r⟩|⟨r,_⟩
  ·omega
  ·exact r
  ·exact((both_iff.1 (h.sub x r).2).2.elim a b).elim
 ·obtain⟨d,hd⟩:=key_mem (key x hx (.inr e));have b:=both_iff.2 ⟨e,q⟩;rcases h.old x d hd hx with ⟨r,_⟩|⟨_,r,_⟩|⟨_,s,t,r,j0,j1⟩
  ·omega
  ·rw[b]at r;cases r
  ·exact⟨s,t,by rw[laid_in h.keys hd,r],jn j0,jn j1⟩
 ·obtain⟨d,hd⟩:=key_mem (((hmem x).1 hx).resolve_left hn);rw[laid_in h.keys hd];obtain⟨a1,a2,a3,a4,_⟩:=h.made x d hd hn;exact⟨a1,a2,a3,a4⟩
 ·have mx:=low x hx e;have my:=low y hy (by rw[← eq];exact e);rw[← eq]at my;have lx:=(h.ln _ _).2 ⟨mx,e⟩;have ly:=(h.ln _ _).2 ⟨my,e⟩;obtain⟨i,hi⟩:=List.mem_iff_getElem?.1 lx;obtain⟨j,hj⟩:=List.mem_iff_getElem?.1 ly;have e1:(L.map (·.1))[i]? = some ((laidM M k N).nd x):=by simp[hi]
  have e2:(L.map (·.1))[j]? = some ((laidM M k N).nd x):=by simp[hj]
  have hij:i=j:=(List.getElem?_inj (List.getElem?_eq_some_iff.1 e1).1 h.lkeys).1 (e1.trans e2.symm);rw[hij,hj]at hi;exact((Prod.mk.inj (Option.some.inj hi)).2).symm
end
end Go.Proofs.YtnnmdkaoiofabaaGreat.Sw
namespace Go.Proofs.YtnnmdkaoiofabaaGreat.Sw
open Go Go.RowKit
section
variable {w0 w w':World}{E S bn bl k last:Nat}{N:List (Nat×Nd)}{L:List (Nd×Nat)}{M:Mdl}{F:Nat→Prop}
theorem Ex.start (w:World) (S k:Nat):Ex w (((w.alloc (.map #[] 0)).alloc (.map #[] 0)).alloc (.cells #[.pointer (some ⟨S,0,none⟩),.int .i64 (k:Int),.map (some w.heap.size),.map (some (w.heap.size+1)),.int .u32 1] 181)) (w.heap.size+2) S w.heap.size (w.heap.size+1) k [] [] 1:=by
 have s1:(w.alloc (.map #[] 0)).heap.size=w.heap.size+1:=by simp
 have s2:((w.alloc (.map #[] 0)).alloc (.map #[] 0)).heap.size=w.heap.size+2:=by simp
 have e1:IsM (w.alloc (.map #[] 0)) w.heap.size []:=IsM.fresh w;have e2:IsM ((w.alloc (.map #[] 0)).alloc (.map #[] 0)) (w.heap.size+1) []:=by rw[← s1];exact IsM.fresh _
 refine⟨(((Below.refl _ w).alloc (Nat.le_refl _) _).alloc (by omega) _).alloc (by omega) _,?_,?_,?_,by omega,by omega,Nat.le_refl _,by omega⟩
 ·rw[← s2];refine⟨_,Go.Deep.blk_alloc_new _ _,rfl,fun i hi=>?_⟩
  have:i=0∨i=1∨i=2∨i=3∨i=4:=by omega
  rcases this with rfl|rfl|rfl|rfl|rfl <;> rfl
 ·exact(e1.same (Below.heap_alloc _ _ _ e1.lt)).same (Below.heap_alloc _ _ _ (by rw[s2];omega))
 ·exact e2.same (Below.heap_alloc _ _ _ e2.lt)
theorem take_len (l:List Nat){j:Nat}(h:j<l.length):l.getD j 0∈l:=by
 rw[List.getD_eq_getElem?_getD,List.getElem?_eq_getElem h];exact List.getElem_mem h
theorem mvB_nodup (o:M.Ok):(mvB M k M.hs).Nodup:=by
 have:∀l:List Nat,l.Nodup→(mvB M k l).Nodup:=fun l=>by
  induction l with
  | nil=>intro _;exact List.nodup_nil
  | cons a l ih =>
   intro hn;have h1:=List.nodup_cons.1 hn;show (mvB1 M k a ++ mvB M k l).Nodup;unfold mvB1;split
   ·exact List.nodup_cons.2 ⟨fun h=>h1.1 (mvB_mem.1 h).1,ih h1.2⟩
   ·exact ih h1.2
 exact this _ o.nodup
theorem take_fresh {l:List Nat}(hn:l.Nodup){j:Nat}(h:j<l.length):l.getD j 0 ∉ l.take j:=by
 rw[List.getD_eq_getElem?_getD,List.getElem?_eq_getElem h];intro hm;obtain⟨i,hi,e⟩:=List.mem_iff_getElem.1 hm;rw[List.length_take]at hi;rw[List.getElem_take]at e;change l[i]=l[j]at e;have:=(List.getElem_inj hn).1 e;omega
set_option maxRecDepth 100000 in
set_option maxHeartbeats 4000000 in
theorem exchanged_any (s:St w S F M) (kn:k+1<M.n) (room:M.hs.length+2*atLev M k≤M.room) :
  Calls Tryz.prog 83 #[.pointer (some ⟨S,0,none⟩),.int .i64 (k:Int)] w fun e w'=>∃(bn:Nat) (N:List (Nat×Nd)) (L:List (Nd×Nat)) (last c:Nat),e = .returned (.map (some bn))∧IsH w' bn N∧PInv M k (mvB M k M.hs) c N L last∧c≤2*atLev M k∧Below w.heap.size w w'∧w.heap.size≤bn:=by
 have o:=s.ok;have n8:=o.le8;have r2:=s.room.2;have sA:Aside (St w S F M):=s;have oA:Aside M.Ok:=o;have roomA:Aside (M.hs.length+2*atLev M k≤M.room):=room;have h1:=Ex.start w S k;have hmm:=@run_makeMap Tryz.prog;obtain⟨A,hA⟩:∃A,w.heap.size=A:=⟨_,rfl⟩
 have hAA:Aside (w.heap.size=A):=hA;rw[hA]at h1 ⊢;have K1:=move_any s h1 kn;have hBl:(mvB M k M.hs).length≤atLev M k:=mvB_len M.hs;have ndA:Aside (mvB M k M.hs).Nodup:=mvB_nodup o;have inA:Aside (∀x∈mvB M k M.hs,x∈M.hs∧bothB M k x=true):=fun x hx=>mvB_mem.1 hx
 have p0:Aside (PInv M k [] 0 (mvN M k M.hs) (mvL M k M.hs) 1):=PInv.start o;generalize mvN M k M.hs=N0 at K1 p0;generalize mvL M k M.hs=L0 at K1 p0;generalize mvB M k M.hs=Bs at K1 hBl ndA inA ⊢;have ltA:Aside (∀b,XF (A+2) A (A+1) b→b<A+3):=fun b hb=>by rcases hb with e|e|e <;> omega
 obtain⟨n,hn⟩:∃n,Bs.length=n:=⟨_,rfl⟩
 have hnA:Aside (Bs.length=n):=hn;rw[hn]at K1 hBl;have h1A:Aside (Below A w (((w.alloc (.map #[] 0)).alloc (.map #[] 0)).alloc (.cells #[.pointer (some ⟨S,0,none⟩),.int .i64 (k:Int),.map (some A),.map (some (A+1)),.int .u32 1] 181))):=hA ▸ h1.base;have szA:Aside ((((w.alloc (.map #[] 0)).alloc (.map #[] 0)).alloc (.cells #[.pointer (some ⟨S,0,none⟩),.int .i64 (k:Int),.map (some A),.map (some (A+1)),.int .u32 1] 181)).heap.size=A+3):=by show _=_;simp[hA]
 clear hn o s h1 room;go_enter Tryz.func83,Tryz.ntmps83
 go_wp2_with (first
  | (go_at_call 103;refine K1.mono ?_;clear K1;rintro e w2 ⟨ad,cap,rfl,o2,h2,g2⟩))
 rw[szA.out]at o2;have o2A:Aside (OwnR 36 w2 (A+3) ad n cap (fun i=>.int .u32 (Bs.getD i 0:Nat))):=o2;have h2A:Aside (Ex w w2 (A+2) S A (A+1) k N0 L0 1):=h2;have n32:n≤32768:=by have:=roomA.out;omega
 clear o2 h2 g2 hA;go_loopg [15,7] n (fun g s15 _ wr=>∃(j:Nat) (N:List (Nat×Nd)) (L:List (Nd×Nat)) (last c:Nat),j+g=n∧s15 = .int .i64 (j:Int)∧c≤2*j∧Aside (PInv M k (Bs.take j) c N L last)∧Aside (Ex w wr (A+2) S A (A+1) k N L last)∧Aside (Went (XF (A+2) A (A+1)) w2 wr))
 case atStart=>exact⟨0,N0,L0,1,0,by omega,rfl,by omega,p0.out,h2A.out,Went.refl _ _⟩
 case round =>
  obtain⟨j,N,L,last,c,hj,rfl,hc,hP,hE,hG⟩:=hrel;have hJ:Aside (j+gk=n∧c≤2*j):=⟨hj,hc⟩
  have hjn:j≤n:=by omega
  have hPA:Aside (PInv M k (Bs.take j) c N L last):=hP;have hEA:Aside (Ex w wr (A+2) S A (A+1) k N L last):=hE;have hGA:Aside (Went (XF (A+2) A (A+1)) w2 wr):=hG;clear hP hE hG;by_cases hlt:j<n
  ·have hlt':(j:Int)<(n:Int):=by omega
   have hji:¬(n:Int)≤(j:Int):=by omega
   have ownr:OwnR 36 wr (A+3) ad n cap (fun i=>.int .u32 (Bs.getD i 0:Nat)):=
    o2A.out.kept fun b hb=>hGA.out.block b (o2A.out.block b hb).2 fun e=>by have:=ltA.out b e;have:=(o2A.out.block b hb).1;omega
   obtain⟨g,rfl⟩:=ownr.form (by omega);have cw:=ownr.cell hlt;clear ownr;have hjB:j<Bs.length:=by rw[hnA.out];exact hlt
   have xB:=take_len Bs hjB;have xF:=take_fresh ndA.out hjB;have tkA:Aside (Bs.take (j+1)=Bs.take j ++ [Bs.getD j 0]):=take_snoc Bs hjB;generalize Bs.getD j 0=x at cw xB xF tkA;obtain⟨xm,xb⟩:=inA.out x xB;have xA:Aside (x∈M.hs∧bothB M k x=true∧x ∉ Bs.take j):=⟨xm,xb,xF⟩
   have hl:last≤1+M.room:=by have:=hPA.out.last_le;have:=roomA.out;omega
   have bk:=(both_iff.1 xb).1;have dlo:∀b,Deep M k (cof M k (M.nd x).2.1 b):=fun b=>cof_node oA.out kn (oA.out.lo x xm).1 (by have:=(oA.out.lo x xm).2;omega) b
   have dhi:∀b,Deep M k (cof M k (M.nd x).2.2 b):=fun b=>cof_node oA.out kn (oA.out.hi x xm).1 (by have:=(oA.out.hi x xm).2;omega) b
   have dA:Aside ((∀b,Deep M k (cof M k (M.nd x).2.1 b))∧∀b,Deep M k (cof M k (M.nd x).2.2 b)):=⟨dlo,dhi⟩
   have K1:=half_lo sA.out hEA.out hl kn xm hPA.out.keys_in;have K2:Aside (∀(u:World) (N1:List (Nat×Nd)) (L1:List (Nd×Nat)) (last1:Nat),Ex w u (A+2) S A (A+1) k N1 L1 last1→last1≤1+M.room→(∀y∈N1.map (·.1),M.isNode y∨y≤last1)→Calls Tryz.prog 105 #[.pointer (some ⟨A+2,0,none⟩),.int .u32 (x:Int),.func (.func 65) #[.pointer (some ⟨S,0,none⟩)] #[]] u _):=fun u N1 L1 last1 h h' h''=>half_hi sA.out h h' kn xm h''
   have ltjA:Aside (j<n∧n≤atLev M k):=⟨hlt,hBl⟩
   clear xm xb xF xB hjB dlo dhi bk hlt hj hc hl
   go_wp2_with (first
    | (go_at_call 105;refine K1.mono ?_;clear K1;rintro e w3 ⟨y,N1,L1,l1,rfl,j1,h3,g3⟩;obtain⟨p1,jn1,sub1⟩:=hPA.out.join (dA.out.1 false) (dA.out.2 false) j1;have K3:=K2.out w3 N1 L1 l1 h3 (by have:=p1.last_le;have:=roomA.out;have:=hJ.out;have:=ltjA.out;omega) p1.keys_in;have p1A:Aside (PInv M k (Bs.take j) (c+1) N1 L1 l1):=p1;have jn1A:Aside (JnL L1 k y (cof M k (M.nd x).2.1 false) (cof M k (M.nd x).2.2 false)):=jn1;have g3A:Aside (Went (XF (A+2) A (A+1)) w2 w3):=hGA.out.trans g3;clear p1 jn1 sub1 j1 h3 g3)
    | (go_at_call 105;refine K3.mono ?_;clear K3;rintro e w4 ⟨z,N2,L2,l2,rfl,j2,h4,g4⟩;obtain⟨p2,jn2,sub2⟩:=p1A.out.join (dA.out.1 true) (dA.out.2 true) j2;obtain⟨p3,nx,nl⟩:=p2.lay xA.out.1 xA.out.2.1 xA.out.2.2 (jn1A.out.mono sub2) jn2;have K4:Calls _ _ #[_,_,.agg #[.int .i64 (k:Int),.int .u32 (y:Int),.int .u32 (z:Int)]] _ _:=put_any h4 x (k,y,z) nx nl (by omega);rw[if_neg (show ¬(k,y,z).1=k+1 by simp only;omega)]at K4;have p3A:Aside (PInv M k (Bs.take j ++ [x]) (c+1+1) (N2 ++ [(x,(k,y,z))]) L2 l2):=p3;have g4A:Aside (Went (XF (A+2) A (A+1)) w2 w4):=g3A.out.trans g4;clear p2 jn2 sub2 p3 nx nl j2 h4 g4)
    | (go_at_call 104;refine K4.mono ?_;clear K4;rintro e w5 ⟨rfl,h5,g5⟩))
   go_roundg (gk-1)
   case measure=>have:=hJ.out;have:=ltjA.out;omega
   case rel =>
    have:=hJ.out;have:=ltjA.out;exact⟨j+1,_,_,_,c+1+1,by omega,by go_num,by omega,tkA.out ▸ p3A.out,h5,g4A.out.trans g5⟩
  ·obtain rfl:j=n:=by omega
   have c2:=hEA.out.c2;have tk:Bs.take j=Bs:=List.take_of_length_le (by rw[hnA.out];exact Nat.le_refl _);have pA:Aside (PInv M k Bs c N L last):=tk ▸ hPA.out
   go_wp2_with fail
   go_ret
   have bs:=hEA.out.base;rw[hAA.out]at bs;exact⟨A,N,L,last,c,rfl,hEA.out.hN,pA.out,by omega,bs,Nat.le_refl _⟩
end
end Go.Proofs.YtnnmdkaoiofabaaGreat.Sw
