/-
  Sifting, without a program: how many nodes a few functions have on a level and in all; a variable moved to a level; the least of some costs.
-/
import Derived.Test.YtnnmdkaoiofabaaGreatBaseG
namespace Go.Proofs.YtnnmdkaoiofabaaGreat.Sf
open Go
def dn (M:Mdl) (L:List Nat):Nat→List Nat
 | 0=>L
 | k+1=>(dn M L k).flatMap fun x=>if M.lev x=k then [(M.nd x).2.1,(M.nd x).2.2]else [x]
theorem flat_two {f:Nat→List Nat}(h:∀x,(f x).length≤2):∀l:List Nat,(l.flatMap f).length≤2*l.length
 | []=>by simp
 | x :: l=>by
  have:=flat_two h l;have:=h x;rw[List.flatMap_cons,List.length_append,List.length_cons];omega
theorem dn_len (M:Mdl) (L:List Nat):∀k,(dn M L k).length≤2^k*L.length
 | 0=>by simp[dn]
 | k+1=>by
  have h1:=dn_len M L k;have h2:=flat_two (f:=fun x=>if M.lev x=k then [(M.nd x).2.1,(M.nd x).2.2]else [x]) (fun x=>by by_cases c:M.lev x=k <;> simp[c]) (dn M L k);rw[dn]
  have:2^(k+1)*L.length=2*(2^k*L.length):=by rw[Nat.pow_succ,Nat.mul_comm (2^k) 2,Nat.mul_assoc]
  omega
theorem dn_stay {M:Mdl}{L:List Nat}{x k:Nat}(hx:x∈dn M L k):∀d,k+d≤M.lev x→x∈dn M L (k+d)
 | 0,_=>hx
 | d+1,h=>by
  have:=dn_stay hx d (by omega);show x∈dn M L (k+d+1);rw[dn,List.mem_flatMap];exact⟨x,this,by rw[if_neg (by omega)];simp⟩
theorem dn_to {M:Mdl}{L:List Nat}{x k j:Nat}(hx:x∈dn M L k) (h:k≤j) (hj:j≤M.lev x):x∈dn M L j:=by
 have:=dn_stay hx (j-k) (by omega);rwa [show k+(j-k)=j by omega]at this
section
variable {M:Mdl}{H:Nat→Nat}{n:Nat}
def Full (M:Mdl) (H:Nat→Nat) (n:Nat):Prop:=∀Q:Nat→Prop,(∀i,i<n→Q (H i))→(∀k∈M.hs,Q k→Q (M.nd k).2.1∧Q (M.nd k).2.2)→∀k∈M.hs,Q k
theorem dn_in (o:M.Ok) (f:Full M H n):∀k∈M.hs,k∈dn M ((List.range n).map H) (M.lev k):=
 f (fun k=>k∈dn M ((List.range n).map H) (M.lev k)) (fun i hi=>dn_to (k:=0) (List.mem_map.2 ⟨i,List.mem_range.2 hi,rfl⟩) (Nat.zero_le _) (Nat.le_refl _)) fun k hk q=>by
  have e:=Mdl.lev_in o hk;have l1:=o.lo k hk;have l2:=o.hi k hk;have kid:∀c,(c=(M.nd k).2.1∨c=(M.nd k).2.2)→c∈dn M ((List.range n).map H) (M.lev k+1):=fun c hc=>by
   rw[dn,List.mem_flatMap];refine⟨k,q,?_⟩;rw[if_pos rfl];rcases hc with rfl|rfl <;> simp
  exact⟨dn_to (kid _ (.inl rfl)) (by omega) (Nat.le_refl _),dn_to (kid _ (.inr rfl)) (by omega) (Nat.le_refl _)⟩
theorem level_le (o:M.Ok) (f:Full M H n) (k:Nat):(M.hs.filter fun h=>decide ((M.nd h).1=k)).length≤2^k*n:=by
 refine Nat.le_trans (nodup_le _ (dn M ((List.range n).map H) k) (o.nodup.filter _) fun x hx=>?_) (by have:=dn_len M ((List.range n).map H) k;rwa [List.length_map,List.length_range]at this);obtain⟨h1,h2⟩:=List.mem_filter.1 hx;rw[decide_eq_true_eq]at h2;have:=dn_in o f x h1;rwa [Mdl.lev_in o h1,h2]at this
theorem above_le (o:M.Ok) (f:Full M H n):∀m,(M.hs.filter fun h=>decide ((M.nd h).1<m)).length≤(2^m-1)*n
 | 0=>by
  rw[show (fun h=>decide ((M.nd h).1<0))=fun _=>false from funext fun h=>by simp];simp
 | m+1=>by
  have h1:=above_le o f m;have h2:=level_le o f m;have h3:(M.hs.filter fun h=>decide ((M.nd h).1<m+1)).length≤((M.hs.filter fun h=>decide ((M.nd h).1<m)) ++ M.hs.filter fun h=>decide ((M.nd h).1=m)).length:=by
   refine nodup_le _ _ (o.nodup.filter _) fun x hx=>?_
   obtain⟨a,b⟩:=List.mem_filter.1 hx;rw[decide_eq_true_eq]at b;by_cases c:(M.nd x).1=m
   ·exact List.mem_append.2 (.inr (List.mem_filter.2 ⟨a,by rw[decide_eq_true_eq];exact c⟩))
   ·exact List.mem_append.2 (.inl (List.mem_filter.2 ⟨a,by rw[decide_eq_true_eq];omega⟩))
  rw[List.length_append]at h3;have p:1≤2^m:=Nat.one_le_two_pow;have e:(2^(m+1)-1)*n=(2^m-1)*n+2^m*n:=by
   rw[← Nat.add_mul];congr 1;rw[Nat.pow_succ];omega
  omega
theorem full_none (f:Full M H 0):M.hs=[]:=by
 cases e:M.hs with
 | nil=>rfl
 | cons x l=>exact(f (fun _=>False) (fun i hi=>absurd hi (Nat.not_lt_zero _)) (fun _ _ h=>h.elim) x (by rw[e];simp)).elim
theorem few (o:M.Ok) (f:Full M H n) (k:Nat):M.hs.length≤81*n∧(M.hs.filter fun h=>decide ((M.nd h).1=k)).length≤32*n:=by
 by_cases c:n=0
 ·subst c;rw[full_none f];simp
 ·have n8:=o.le8;have h1:=Mdl.len_le o;have h2:M.up≤63*n:=by
   by_cases q:2≤M.n
   ·have:=above_le o f (M.n-2);have e:(fun h=>decide ((M.nd h).1<M.n-2))=fun h=>decide ((M.nd h).1+2<M.n):=funext fun h=>by rw[decide_eq_decide];omega
    rw[e]at this;have p:(2:Nat)^(M.n-2)≤2^6:=Nat.pow_le_pow_right (by omega) (by omega);exact Nat.le_trans this (Nat.mul_le_mul_right n (by omega))
   ·have:M.up=0:=by
     unfold Mdl.up;rw[show (fun h=>decide ((M.nd h).1+2<M.n))=fun _=>false from funext fun h=>decide_eq_false (by omega)];simp
    omega
  refine⟨by omega,?_⟩;by_cases q:k+2<M.n
  ·have:=level_le o f k;have p:(2:Nat)^k≤2^5:=Nat.pow_le_pow_right (by omega) (by omega);exact Nat.le_trans this (Nat.mul_le_mul_right n p)
  ·by_cases q2:k+2=M.n
   ·have:=Mdl.at_second o;have e:(fun h=>decide ((M.nd h).1=k))=fun h=>decide ((M.nd h).1+2=M.n):=funext fun h=>by rw[decide_eq_decide];omega
    rw[e];omega
   ·by_cases q3:k+1=M.n
    ·have:=Mdl.at_lowest o;have e:(fun h=>decide ((M.nd h).1=k))=fun h=>decide ((M.nd h).1+1=M.n):=funext fun h=>by rw[decide_eq_decide];omega
     rw[e];omega
    ·have:M.hs.filter (fun h=>decide ((M.nd h).1=k))=[]:=List.filter_eq_nil_iff.2 fun h hh=>by
      have:=o.lv h hh;rw[decide_eq_true_eq];omega
     rw[this];simp
end
def rem (v:Nat→Nat) (p j:Nat):Nat:=if j<p then v j else v (j+1)
def mv (v:Nat→Nat) (p q i:Nat):Nat:=if i<q then rem v p i else if i=q then v p else rem v p (i-1)
theorem mv_self (v:Nat→Nat) (p:Nat):mv v p p=v:=funext fun i=>by
 unfold mv rem;by_cases a:i<p
 ·rw[if_pos a,if_pos a]
 ·rw[if_neg a];by_cases b:i=p
  ·rw[if_pos b,b]
  ·rw[if_neg b,if_neg (by omega),show i-1+1=i by omega]
theorem mv_at (v:Nat→Nat) (p q:Nat):mv v p q q=v p:=by unfold mv;rw[if_neg (Nat.lt_irrefl q),if_pos rfl]
def bst (f:Nat→Nat):Nat→Nat
 | 0=>0
 | k+1=>if f k<f (bst f k)then k else bst f k
theorem bst_lt (f:Nat→Nat):∀{k},0<k→bst f k<k
 | 0,h=>absurd h (Nat.lt_irrefl _)
 | k+1,_=>by
  rw[bst];by_cases c:f k<f (bst f k)
  ·rw[if_pos c];omega
  ·rw[if_neg c];rcases Nat.eq_zero_or_pos k with e|e
   ·subst e;rw[bst];omega
   ·have:=bst_lt f e;omega
theorem bst_le (f:Nat→Nat):∀{k i},i<k→f (bst f k)≤f i
 | 0,_,h=>absurd h (Nat.not_lt_zero _)
 | k+1,i,h=>by
  rw[bst];by_cases c:f k<f (bst f k)
  ·rw[if_pos c];by_cases e:i=k
   ·subst e;exact Nat.le_refl _
   ·have:=bst_le f (k:=k) (i:=i) (by omega);omega
  ·rw[if_neg c];by_cases e:i=k
   ·subst e;omega
   ·exact bst_le f (by omega)
theorem bst_one (f:Nat→Nat):bst f 1=0:=by
 rw[bst];by_cases c:f 0<f (bst f 0)
 ·rw[if_pos c]
 ·rw[if_neg c,bst]
end Go.Proofs.YtnnmdkaoiofabaaGreat.Sf
