/-
  Sifting: the model's sizes and its plan are the reference's.
-/
import Derived.Test.YtnnmdkaoiofabaaGreatSrF
import Derived.Test.YtnnmdkaoiofabaaGreatSfW
namespace Go.Proofs.YtnnmdkaoiofabaaGreat.Sr
open Go Go.RowKit
open Rf (prt dedup fixI)
open Sf (szN sfI PlanIs plK Unl rtH rtH_mem rtH_of SiftP)
theorem pw_len {ts us:List (Nat→Bool)}(a:PW ts) (b:PW us) (h:∀G,InT ts G↔InT us G):ts.length=us.length:=by
 have n1:(ts.map encT).Nodup:=List.pairwise_map.2 (a.imp fun h e=>h ((encT_iff _ _).1 e));have n2:(us.map encT).Nodup:=List.pairwise_map.2 (b.imp fun h e=>h ((encT_iff _ _).1 e));have m:∀t,t∈ts.map encT↔t∈us.map encT:=fun t=>by
  constructor
  ·intro ht;obtain⟨p,hp,rfl⟩:=List.mem_map.1 ht;obtain⟨q,hq,e⟩:=(h p).1 ⟨p,hp,Eqt.refl p⟩;exact List.mem_map.2 ⟨q,hq,(encT_iff _ _).2 e⟩
  ·intro ht;obtain⟨p,hp,rfl⟩:=List.mem_map.1 ht;obtain⟨q,hq,e⟩:=(h p).2 ⟨p,hp,Eqt.refl p⟩;exact List.mem_map.2 ⟨q,hq,(encT_iff _ _).2 e⟩
 have:=((List.perm_ext_iff_of_nodup n1 n2).2 m).length_eq;rwa [List.length_map,List.length_map]at this
theorem cst_fixI {F:Nat→Bool}(h:Cst F) (v:Int) (b:Bool):Cst (fixI F v b):=by
 unfold fixI;split
 ·exact cst_fix h (by omega) b
 ·exact h
theorem lv_same {V:Int→Int}{ts us:List (Nat→Bool)}{W:Nat→Int}(h:∀F,¬Cst F→InT ts F→InT us F):∀k G,¬Cst G→Lv W ts k G→Lv W us k G
 | 0,G,nc,l=>h G nc l
 | k+1,G,nc,⟨H,l,q⟩=>by
  have nH:¬Cst H:=fun c=>by
   rcases q with q|q
   ·exact nc ((cst_congr q).1 (cst_fixI c _ _))
   ·exact nc ((cst_congr q).1 (cst_fixI c _ _))
  exact⟨H,lv_same (V:=V) h k H nH l,q⟩
theorem szN_roots {n L1 L2:Nat}{T1 T2:Nat→Nat→Bool}(hn:n≤8) (same:∀F,¬Cst F→((∃i,i<L1∧Eqt (T1 i) F)↔∃i,i<L2∧Eqt (T2 i) F)) (v:Nat→Nat):szN n v T1 L1=szN n v T2 L2:=by
 unfold szN;have e8:min n 8=n:=by omega
 rw[e8];refine pw_len (pw_prt _ _ _ _) (pw_prt _ _ _ _) fun G=>?_
 rw[in_prt _ _ _ (n+1) (Nat.le_refl _) (by omega),in_prt _ _ _ (n+1) (Nat.le_refl _) (by omega)];constructor
 ·rintro⟨j,hj,l,nc⟩;exact⟨j,hj,lv_same (V:=id) (fun F nF h=>(in_dedup _ _ _).2 ((same F nF).1 ((in_dedup _ _ _).1 h))) j G nc l,nc⟩
 ·rintro⟨j,hj,l,nc⟩;exact⟨j,hj,lv_same (V:=id) (fun F nF h=>(in_dedup _ _ _).2 ((same F nF).2 ((in_dedup _ _ _).1 h))) j G nc l,nc⟩
section
variable {w w':World}{S n0:Nat}{M M':Mdl}{F F':Nat→Prop}{H:Nat→Nat}{T:Nat→Nat→Bool}{zs xs ks:List Nat}{e:Ending}
theorem roots_same (u:Unl H n0 zs) (nh:∀i,i<n0→M.isNode (H i)∧Eqt (M.tbl (H i)) (T i)) (G:Nat→Bool) (nc:¬Cst G):(∃i,i<zs.length∧Eqt (M.tbl (rtH zs i)) G)↔∃i,i<n0∧Eqt (T i) G:=by
 constructor
 ·rintro⟨i,hi,h⟩;obtain⟨_,j,hj,ej⟩:=(u.mem _).1 (rtH_mem hi);rw[← ej]at h;exact⟨j,hj,(nh j hj).2.symm.trans h⟩
 ·rintro⟨i,hi,h⟩;have h2:=(nh i hi).2.trans h;have h1:1<H i:=Nat.lt_of_not_le fun q=>nc ((cst_congr h2).1 (by
   have:H i=0∨H i=1:=by omega
   rcases this with q|q
   ·rw[q];exact .inl (tbl_zero M)
   ·rw[q];exact .inr (tbl_one M)))
  obtain⟨j,hj,ej⟩:=rtH_of ((u.mem (H i)).2 ⟨h1,i,hi,rfl⟩);exact⟨j,hj,by rw[ej];exact h2⟩
theorem reach_has (o:M.Ok) (r:Mk.Rch M H n0 ks) (nh:∀i,i<n0→M.isNode (H i)∧Eqt (M.tbl (H i)) (T i)) (G:Nat→Bool):InT (prt (fun i=>(M.v i:Int)) M.n (dedup T n0) (min M.n 8+1)).1 G↔∃k∈ks,Eqt (M.tbl k) G:=by
 have dn:=fun {c:Nat} (hc:M.isNode c)=>tbl_dep o hc (Nat.zero_le (M.lev c))
 have d:∀i,i<n0→Dep M 0 (T i):=fun i hi=>Dep.congr (dn (nh i hi).1) (nh i hi).2
 have q:∀k∈ks,∀X,Prt M (M.tbl k) X→PrtT M T n0 X:=r.only (fun y=>∀X,Prt M (M.tbl y) X→PrtT M T n0 X) (fun i hi X p=>⟨i,hi,(Prt.like o (dn (nh i hi).1) (nh i hi).2).1 p⟩) fun k hk h=>⟨fun X p=>h X ((Sw.prt_kid o hk).1 p),fun X p=>h X ((Sw.prt_kid o hk).2 p)⟩
 have m:InT (prt (fun i=>(M.v i:Int)) M.n (dedup T n0) (min M.n 8+1)).1 G↔PrtT M T n0 G:=by
  rw[← sizeN_mem o d G];constructor
  ·rintro⟨X,hX,e⟩;exact List.mem_map.2 ⟨X,hX,(encT_iff _ _).2 e⟩
  ·intro h;obtain⟨X,hX,e⟩:=List.mem_map.1 h;exact⟨X,hX,(encT_iff _ _).1 e⟩
 rw[m];constructor
 ·rintro⟨i,hi,p⟩;have p':=(Prt.like o (dn (nh i hi).1) (nh i hi).2).2 p;obtain⟨x,hx,ex⟩:=Prt.there o _ (nh i hi).1 (Nat.le_refl _) p';have p2:Prt M (M.tbl (H i)) (M.tbl x):=Sw.subs_to p' ex.symm;exact⟨x,Sw.Closed.prt o r.closed hx _ (nh i hi).1 (Nat.le_refl _) (r.top i hi) p2,ex⟩
 ·rintro⟨k,hk,e⟩;have hm:=r.inn k hk;obtain⟨i,hi,p⟩:=q k hk _ (Prt.self o (dn (.inr hm)) (Sw.node_ncst o hm));exact⟨i,hi,Sw.subs_to p e⟩
theorem plan_told (o:M.Ok) (r:Mk.Rch M H n0 ks) (nh:∀i,i<n0→M.isNode (H i)∧Eqt (M.tbl (H i)) (T i)){ts:List (Nat→Bool)}(ht:(prt (fun i=>(M.v i:Int)) M.n (dedup T n0) (min M.n 8+1)).1=ts):lvN M ks=fsN M.v M.n ts∧ts.length=ks.length:=by
 have h:=reach_has o r nh;have nd:=r.once;rw[ht]at h;have pw:PW ts:=by rw[← ht];exact pw_prt _ _ _ _
 have v8':∀i,i<M.n→M.v i<8:=fun i hi=>v8 o hi
 have len:∀(f:(Nat→Bool)→Bool) (g:Nat→Bool),(∀p x,x∈ks→Eqt (M.tbl x) p→f p=g x)→(ts.filter f).length=(ks.filter g).length:=fun f g hfg=>by
  have n1:((ts.filter f).map encT).Nodup:=List.pairwise_map.2 ((List.Pairwise.filter _ pw).imp fun h e=>h ((encT_iff _ _).1 e));have n2:((ks.filter g).map fun k=>encT (M.tbl k)).Nodup:=by
   refine nodup_map_on _ _ (nd.filter _) fun a ha b hb e=>?_
   exact(Mdl.one_iff o (.inr (r.inn _ (List.mem_filter.1 ha).1)) (.inr (r.inn _ (List.mem_filter.1 hb).1))).1 ((encT_iff _ _).1 e)
  have m:∀t,t∈((ts.filter f).map encT)↔t∈((ks.filter g).map fun k=>encT (M.tbl k)):=fun t=>by
   constructor
   ·intro ht;obtain⟨p,hp,rfl⟩:=List.mem_map.1 ht;obtain⟨hp,hi⟩:=List.mem_filter.1 hp;obtain⟨x,hx,e⟩:=(h p).1 ⟨p,hp,Eqt.refl p⟩;exact List.mem_map.2 ⟨x,List.mem_filter.2 ⟨hx,by rw[← hfg p x hx e];exact hi⟩,(encT_iff _ _).2 e⟩
   ·intro ht;obtain⟨x,hx,rfl⟩:=List.mem_map.1 ht;obtain⟨hx,hi⟩:=List.mem_filter.1 hx;obtain⟨p,hp,e⟩:=(h (M.tbl x)).2 ⟨x,hx,Eqt.refl _⟩;exact List.mem_map.2 ⟨p,List.mem_filter.2 ⟨hp,by rw[hfg p x hx e.symm];exact hi⟩,(encT_iff _ _).2 e⟩
  have:=((List.perm_ext_iff_of_nodup n1 n2).2 m).length_eq;rwa [List.length_map,List.length_map]at this
 refine⟨funext fun i=>?_,?_⟩
 ·exact(len (fun p=>decide (fstH p M.v M.n=i)) (fun k=>decide ((M.nd k).1=i)) fun p x hx e=>by
   rw[← fstH_node o (r.inn x hx),fstH_congr e _ v8']).symm
 ·have:=len (fun _=>true) (fun _=>true) fun _ _ _ _=>rfl
  rwa [List.filter_eq_self.2 (fun _ _=>rfl),List.filter_eq_self.2 (fun _ _=>rfl)]at this
structure ToldP (M:Mdl) (T:Nat→Nat→Bool) (n0:Nat) (xs:List Nat) (e:Ending) (M':Mdl) (ts:List (Nat→Bool)) (Z:Nat→Nat):Prop where
 isTs:(prt (fun i=>(M.v i:Int)) M.n (dedup T n0) (min M.n 8+1)).1=ts
 few:ts.length≤1000000
 isZ:sfI M.n (fun u=>szN M.n u T n0) M.v xs M.n=Z
 plan:PlanIs (plK M.v (fsN M.v M.n ts) M.n) M.n xs
 told:e = .returned (.tuple #[.int .i64 (szN M.n M.v T n0:Int),.int .i64 (szN M.n Z T n0:Int),.int .i64 0])
 v:M'.v=Z
 n:M'.n=M.n
 room:M'.room=M.room
 len:M'.hs.length=szN M.n Z T n0
 less:szN M.n Z T n0≤szN M.n M.v T n0
theorem plan_few {ks:List Nat}(nd:ks.Nodup) (inn:∀k∈ks,k∈M.hs):ks.length≤M.hs.length:=nodup_le _ _ nd inn
theorem sift_told (o:M.Ok) (o':M'.Ok) (q:SiftP w S F M n0 H e w' zs xs ks F' M') (nh:∀i,i<n0→M.isNode (H i)∧Eqt (M.tbl (H i)) (T i)) (few:M.hs.length≤1000000) (h1:1≤M.n):∃ts Z,ToldP M T n0 xs e M' ts Z:=by
 have same:=szN_roots (n:=M.n) o.le8 (roots_same q.unl nh);have e1:(fun u=>szN M.n u (fun i=>M.tbl (rtH zs i)) zs.length)=fun u=>szN M.n u T n0:=funext fun u=>same u
 have r:Mk.Rch M H n0 ks:=⟨q.rch.inn,q.rch.closed,q.rch.top,q.rch.only,q.nd⟩
 have p:=plan_told o r nh rfl;have lt:=q.rts.len o';have tl:=q.told;have pv:=q.rts.v;rw[e1]at tl pv lt;rw[same]at tl lt;rw[same]at tl;refine⟨_,_,rfl,?_,rfl,?_,tl,pv,q.rts.n,q.rts.room,lt,?_⟩
 ·have:=plan_few r.once r.inn;omega
 ·rw[← p.1];exact q.plan
 ·exact Sf.sfI_le h1 (fun u=>szN M.n u T n0) M.v xs M.n
end
end Go.Proofs.YtnnmdkaoiofabaaGreat.Sr
