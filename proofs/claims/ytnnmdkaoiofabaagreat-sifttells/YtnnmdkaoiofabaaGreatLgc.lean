/-
  Operations over the nodes of a store, without a program: which nodes an answer is made of, what making them leaves, what a full store means. The rules of package logic: where an answer is told at once; what becomes of an argument further down. Package logic: the walk of all operations, over whatever rule. Package logic: what each operation comes to. Package logic by its face: Not, And, Or, Xor, Ite, Var. A store some of whose handles are known by their functions; package logic over it. Var. A drawn statement each of whose operations leaves a value with a property that new memory keeps; behind it the frame is told slot by slot. Functions made in a store of just so much room. As many nodes as several functions have together, without a program; room for them.
-/
import Derived.Test.YtnnmdkaoiofabaaGreatBaseG
import Derived.Test.YtnnmdkaoiofabaaGreatBaseS
import Derived.Deep.RegionHeld3
import Derived.Test.YtnnmdkaoiofabaaGreatBaseD
import Derived.Test.YtnnmdkaoiofabaaGreatBaseF
namespace Go.Proofs.YtnnmdkaoiofabaaGreat
open Rf (fixAt fixF)
section
variable {M M' M'':Mdl}{F F' G:Nat→Bool}{k:Nat}
theorem Dep.congr (d:Dep M k F) (e:Eqt F F'):Dep M k F':=fun x y hx hy q=>by rw[← e x hx,← e y hy];exact d x y hx hy q
theorem Dep.mono {j:Nat}(d:Dep M k F) (h:j≤k):Dep M j F:=fun x y hx hy q=>d x y hx hy fun i hi hn=>q i (by omega) hn
theorem v8 (o:M.Ok){i:Nat}(h:i<M.n):M.v i<8:=by have:=o.vlt i h;have:=o.le8;omega
theorem Dep.fixed (o:M.Ok) (hk:k<M.n) (d:Dep M (k+1) F) (b:Bool):Eqt (fixF F (M.v k) b) F:=fun x hx=>by
 obtain⟨h1,h2⟩:=fixAt_bits hx (v8 o hk) b;refine d _ _ h1 hx fun j hj hn=>?_
 rw[h2];exact Mdl.setA_other _ _ fun e=>by have:=o.vinj j k hn hk e;omega
def Prt (M:Mdl) (F G:Nat→Bool):Prop:=Subs M.v M.n 0 F G
theorem subs_step (o:M.Ok) (hk:k<M.n) (d:Dep M k F):Subs M.v (M.n-k) k F G↔(Eqt F G∧¬Cst G)∨Subs M.v (M.n-(k+1)) (k+1) (fixF F (M.v k) false) G∨Subs M.v (M.n-(k+1)) (k+1) (fixF F (M.v k) true) G:=by
 rw[subs_desc o _ k F G (by omega) d,subs_desc o _ (k+1) _ G (by omega) (d.fix o hk false),subs_desc o _ (k+1) _ G (by omega) (d.fix o hk true)];constructor
 ·rintro⟨j,hj,h,c⟩;match j,h with
  | 0,h=>exact .inl ⟨h,c⟩
  | j+1,.inl h=>exact .inr (.inl ⟨j,by omega,h,c⟩)
  | j+1,.inr h=>exact .inr (.inr ⟨j,by omega,h,c⟩)
 ·rintro(⟨e,c⟩|⟨j,hj,h,c⟩|⟨j,hj,h,c⟩)
  ·exact⟨0,by omega,e,c⟩
  ·exact⟨j+1,by omega,.inl h,c⟩
  ·exact⟨j+1,by omega,.inr h,c⟩
theorem subs_like (o:M.Ok) (hk:k≤M.n) (d:Dep M k F) (d':Dep M k F') (e:Eqt F F'):Subs M.v (M.n-k) k F G↔Subs M.v (M.n-k) k F' G:=by
 rw[subs_desc o _ k F G (by omega) d,subs_desc o _ k F' G (by omega) d'];have hv:∀j,j≤M.n-k→∀i,i<j→M.v (k+i)<8:=fun j hj i hi=>v8 o (by omega)
 constructor
 ·rintro⟨j,hj,h,c⟩;exact⟨j,hj,desc_from (hv j hj) h e,c⟩
 ·rintro⟨j,hj,h,c⟩;exact⟨j,hj,desc_from (hv j hj) h e.symm,c⟩
theorem subs_up (o:M.Ok):∀(k:Nat),k≤M.n→∀{F G:Nat→Bool},Dep M k F→(Subs M.v (M.n-k) k F G↔Prt M F G)
 | 0,_,_,_,_=>Iff.rfl
 | k+1,hk,F,G,d=>by
  have d0:Dep M k F:=d.mono (by omega);rw[← subs_up o k (by omega) d0,subs_step o (by omega) d0];have e0:=d.fixed o (by omega) false;have e1:=d.fixed o (by omega) true;rw[subs_like o hk (d.congr e0.symm) d e0,subs_like o hk (d.congr e1.symm) d e1];constructor
  ·exact fun h=>.inr (.inl h)
  ·rintro(⟨e,c⟩|h|h)
   ·exact(subs_desc o _ (k+1) F G (by omega) d).2 ⟨0,by omega,e,c⟩
   ·exact h
   ·exact h
theorem Prt.step (o:M.Ok) (hk:k<M.n) (d:Dep M k F):Prt M F G↔(Eqt F G∧¬Cst G)∨Prt M (fixF F (M.v k) false) G∨Prt M (fixF F (M.v k) true) G:=by
 rw[← subs_up o k (by omega) d,subs_step o hk d,subs_up o (k+1) hk (d.fix o hk false),subs_up o (k+1) hk (d.fix o hk true)]
theorem Prt.like (o:M.Ok) (d:Dep M 0 F) (e:Eqt F F'):Prt M F G↔Prt M F' G:=subs_like o (Nat.zero_le _) d (d.congr e) e
theorem Prt.self (o:M.Ok) (d:Dep M 0 F) (nc:¬Cst F):Prt M F F:=(subs_desc o _ 0 F F (by omega) d).2 ⟨0,by omega,Eqt.refl F,nc⟩
theorem Prt.not_cst (o:M.Ok) (d:Dep M 0 F) (c:Cst F):¬Prt M F G:=fun h=>by
 obtain⟨j,hj,h,nc⟩:=(subs_desc o _ 0 F G (by omega) d).1 h;exact nc (desc_cst (fun i hi=>v8 o (by omega)) c h)
theorem tbl_dep (o:M.Ok){h:Nat}(hh:M.isNode h) (hk:k≤M.lev h):Dep M k (M.tbl h):=fun x y hx hy q =>
 Mdl.val_congr o _ hh (Nat.le_refl _) fun j hj hn=>q j (by omega) hn
theorem tbl_fix (o:M.Ok){h:Nat}(hh:M.isNode h) (hk:k<M.lev h) (hn:k<M.n) (b:Bool):Eqt (fixF (M.tbl h) (M.v k) b) (M.tbl h):=(tbl_dep o hh hk).fixed o hn b
theorem tbl_lo (o:M.Ok){h:Nat}(hm:h∈M.hs):Eqt (M.tbl (M.nd h).2.1) (fixF (M.tbl h) (M.v (M.nd h).1) false):=fun x hx=>by
 obtain⟨h1,h2⟩:=fixAt_bits hx (v8 o (o.lv h hm)) false;show M.val _ _=M.val h (fixAt (M.v (M.nd h).1) false x).testBit;rw[h2,Mdl.val_lo o hm]
theorem tbl_hi (o:M.Ok){h:Nat}(hm:h∈M.hs):Eqt (M.tbl (M.nd h).2.2) (fixF (M.tbl h) (M.v (M.nd h).1) true):=fun x hx=>by
 obtain⟨h1,h2⟩:=fixAt_bits hx (v8 o (o.lv h hm)) true;show M.val _ _=M.val h (fixAt (M.v (M.nd h).1) true x).testBit;rw[h2,Mdl.val_hi o hm]
theorem tbl_cst {h:Nat}(h2:h<2):Cst (M.tbl h):=by
 have e:∀x,M.tbl h x=decide (h=1):=fun x=>Mdl.val_const h2 _
 by_cases c:h=1
 ·exact .inr fun x _=>by rw[e];simp[c]
 ·exact .inl fun x _=>by rw[e];simp[c]
theorem Prt.there (o:M.Ok) (d:Nat):∀{h:Nat},M.isNode h→M.n-M.lev h≤d→Prt M (M.tbl h) G→Has M G:=by
 induction d with
 | zero =>
  intro h hh hd p;refine absurd p (Prt.not_cst o (tbl_dep o hh (Nat.zero_le _)) (tbl_cst ?_));rcases hh with e|e
  ·exact e
  ·have:=o.lv h e;rw[Mdl.lev_in o e]at hd;omega
 | succ d ih =>
  intro h hh hd p;rcases hh with e|hm
  ·exact absurd p (Prt.not_cst o (tbl_dep o (.inl e) (Nat.zero_le _)) (tbl_cst e))
  ·have lv:=o.lv h hm;have l1:=o.lo h hm;have l2:=o.hi h hm;rw[Mdl.lev_in o hm]at hd;have dp:Dep M (M.nd h).1 (M.tbl h):=tbl_dep o (.inr hm) (by rw[Mdl.lev_in o hm];exact Nat.le_refl _);rcases(Prt.step o lv dp).1 p with ⟨e,_⟩|q|q
   ·exact⟨h,hm,e⟩
   ·exact ih l1.1 (by omega) ((Prt.like o (tbl_dep o l1.1 (Nat.zero_le _)) (tbl_lo o hm)).2 q)
   ·exact ih l2.1 (by omega) ((Prt.like o (tbl_dep o l2.1 (Nat.zero_le _)) (tbl_hi o hm)).2 q)
end
structure Got (M:Mdl) (k:Nat) (F:Nat→Bool) (x:Nat) (M':Mdl):Prop where
 grew:Mdl.Grew M M'
 node:M'.isNode x
 lev:k≤M'.lev x
 tbl:Eqt (M'.tbl x) F
 up:M'.up≤M.up+(2^(M.n-2-k)-1)
 has:∀G,Has M' G↔Has M G∨Prt M F G
structure Stuck (M:Mdl) (k:Nat) (F:Nat→Bool) (M':Mdl):Prop where
 grew:Mdl.Grew M M'
 full:M'.hs.length=M'.room
 up:M'.up≤M.up+(2^(M.n-2-k)-1)
 has:∀G,Has M' G→Has M G∨Prt M F G
 miss:∃G,Prt M F G∧¬Has M' G
def Told (M:Mdl) (k:Nat) (F:Nat→Bool) (x:Nat) (er:Int) (M':Mdl):Prop:=(er=0∧Got M k F x M')∨(er=60∧x=0∧Stuck M k F M')
def encs (M:Mdl):List (List Bool):=M.hs.map fun x=>encT (M.tbl x)
def prts (M:Mdl) (F:Nat→Bool):List (Nat→Bool):=(Rf.prt (fun i=>(M.v i:Int)) M.n [F] (min M.n 8+1)).1
def meet {α:Type} [DecidableEq α] (l m:List α):Nat:=(l.filter fun z=>decide (z∈m)).length
def rest {α:Type} [DecidableEq α] (l m:List α):List α:=m.filter fun z=>decide (z ∉ l)
def both (M:Mdl) (F:Nat→Bool):Nat:=meet (encs M) ((prts M F).map encT)
end Go.Proofs.YtnnmdkaoiofabaaGreat
namespace Go.Proofs.YtnnmdkaoiofabaaGreat
open Go Go.RowKit
open Rf (fixAt fixF)
def kid (M:Mdl) (L:Nat) (hi:Bool) (h:Nat):Nat:=if M.lev h=L then (if hi then (M.nd h).2.2 else (M.nd h).2.1)else h
def top (M:Mdl) (a b c:Nat):Nat:=min (min (M.lev a) (M.lev b)) (M.lev c)
theorem nb (w:World) (o:Obj):Below w.heap.size w (w.alloc o):=(Below.refl _ w).alloc (Nat.le_refl _) o
end Go.Proofs.YtnnmdkaoiofabaaGreat
namespace Go.Proofs.YtnnmdkaoiofabaaGreat
open Go Go.RowKit
open Rf (fixAt fixF)
section
variable {w:World}{S:Nat}{F0:Nat→Prop}{M:Mdl}{L a b c h:Nat}
theorem lv_any (s:St w S F0 M) (hh:M.isNode h):Calls Tryz.prog 63 #[.pointer (some ⟨S,0,none⟩),.int .u32 (h:Int)] w fun e w'=>e = .returned (.int .i64 (M.lev h:Int))∧w'=w:=by
 have:=s_level s h (by have:=Mdl.isNode_lt s.ok hh;omega);rwa [Mdl.levI_node hh]at this
def ch (hi:Bool):Nat:=if hi then 65 else 64
end
end Go.Proofs.YtnnmdkaoiofabaaGreat
namespace Go.Proofs.YtnnmdkaoiofabaaGreat
open Go Go.RowKit
open Rf (fixAt fixF)
def Left (S:Nat) (F0:Nat→Prop) (w:World) (M:Mdl) (k:Nat) (X:Nat→Bool) (e:Ending) (w':World):Prop:=
 ∃(x:Nat) (er:Int) (M':Mdl) (F':Nat→Prop),e = .returned (.tuple #[.int .u32 (x:Int),.int .i64 er])∧Told M k X x er M'∧St w' S F' M'∧Wf F0 F' w w'
end Go.Proofs.YtnnmdkaoiofabaaGreat
namespace Go.Proofs.YtnnmdkaoiofabaaGreat
open Go Go.RowKit
open Rf (fixAt fixF tab)
theorem tbl_zero (M:Mdl):Eqt (M.tbl 0) (fun _=>false):=fun _ _=>Mdl.val_zero _
theorem tbl_one (M:Mdl):Eqt (M.tbl 1) (fun _=>true):=fun _ _=>Mdl.val_one _
def fA (X Y:Nat→Bool):Nat→Bool:=fun y=>X y && Y y
def fI (X Y Z:Nat→Bool):Nat→Bool:=fun y=>if X y then Y y else Z y
def c0 : Nat→Bool:=fun _=>false
def c1 : Nat→Bool:=fun _=>true
abbrev Kl := List (Nat×(Nat→Bool))
def Kn (M:Mdl) (l:Kl):Prop:=∀p∈l,M.isNode p.1∧Eqt (M.tbl p.1) p.2
end Go.Proofs.YtnnmdkaoiofabaaGreat
namespace Go.Proofs.YtnnmdkaoiofabaaGreat
open Go Go.RowKit
open Rf (fixAt fixF tab prt dedup addN hasUpto lvA lvX)
theorem mem_addN {ts:List (Nat→Bool)}{F A:Nat→Bool}(h:A∈addN ts F):A∈ts∨A=F:=by
 cases q:hasUpto (fun i=>ts.getD i fun _=>false) F ts.length with
 | true=>rw[Rf.addN_skip q]at h;exact .inl h
 | false =>
  rw[Rf.addN_new q]at h;rcases List.mem_append.1 h with h|h
  ·exact .inl h
  ·exact .inr (List.mem_singleton.1 h)
theorem mem_dedup {T:Nat→Nat→Bool}{A:Nat→Bool}:∀{L},A∈dedup T L→∃i,i<L∧A=T i
 | 0,h=>by cases h
 | L+1,h=>by
  have h':A∈addN (dedup T L) (T L):=h;rcases mem_addN h' with q|q
  ·obtain⟨i,hi,e⟩:=mem_dedup q;exact⟨i,by omega,e⟩
  ·exact⟨L,by omega,q⟩
theorem in_dedup (T:Nat→Nat→Bool) (X:Nat→Bool):∀L,InT (dedup T L) X↔∃i,i<L∧Eqt (T i) X
 | 0=>⟨fun⟨F,h,_⟩=>(by cases h),fun⟨i,hi,_⟩=>(by omega)⟩
 | L+1=>by
  have e:dedup T (L+1)=addN (dedup T L) (T L):=rfl;rw[e,in_addN,in_dedup T X L];constructor
  ·rintro(⟨i,hi,q⟩|q)
   ·exact⟨i,by omega,q⟩
   ·exact⟨L,by omega,q⟩
  ·rintro⟨i,hi,q⟩;by_cases c:i=L
   ·subst c;exact .inr q
   ·exact .inl ⟨i,by omega,q⟩
def sizeN (M:Mdl) (T:Nat→Nat→Bool) (L:Nat):Nat:=(prt (fun i=>(M.v i:Int)) M.n (dedup T L) (min M.n 8+1)).1.length
section
variable {M M1:Mdl}{T:Nat→Nat→Bool}{L:Nat}{A:Nat→Bool}
def PrtT (M:Mdl) (T:Nat→Nat→Bool) (L:Nat) (X:Nat→Bool):Prop:=∃i,i<L∧Prt M (T i) X
theorem prt_dedup (o:M.Ok) (d:∀i,i<L→Dep M 0 (T i)) (X:Nat→Bool):(∃F∈dedup T L,Prt M F X)↔PrtT M T L X:=by
 constructor
 ·rintro⟨F,hF,p⟩;obtain⟨i,hi,rfl⟩:=mem_dedup hF;exact⟨i,hi,p⟩
 ·rintro⟨i,hi,p⟩;obtain⟨F,hF,e⟩:=(in_dedup T (T i) L).2 ⟨i,hi,Eqt.refl _⟩;exact⟨F,hF,(Prt.like o (d i hi) e.symm).1 p⟩
theorem sizeN_mem (o:M.Ok) (d:∀i,i<L→Dep M 0 (T i)) (X:Nat→Bool):encT X∈((prt (fun i=>(M.v i:Int)) M.n (dedup T L) (min M.n 8+1)).1.map encT)↔PrtT M T L X:=by
 have n8:=o.le8;have e8:min M.n 8=M.n:=by omega
 rw[← prt_dedup o d,e8,List.mem_map]
 have key:(∃a∈(prt (fun i=>(M.v i:Int)) M.n (dedup T L) (M.n+1)).1,encT a=encT X)↔InT (prt (fun i=>(M.v i:Int)) M.n (dedup T L) (M.n+1)).1 X:=
  ⟨fun⟨x,hx,e⟩=>⟨x,hx,(encT_iff _ _).1 e⟩,fun⟨x,hx,e⟩=>⟨x,hx,(encT_iff _ _).2 e⟩⟩
 rw[key,in_prt _ _ _ (M.n+1) (Nat.le_refl _) (by omega)];constructor
 ·rintro⟨j,hj,h1,h2⟩;obtain⟨F,hF,q⟩:=(lv_desc o (dedup T L) j (by omega) X).1 h1;obtain⟨i,hi,rfl⟩:=mem_dedup hF;exact⟨_,hF,(subs_desc o M.n 0 _ X (by omega) (d i hi)).2 ⟨j,by omega,q,h2⟩⟩
 ·rintro⟨F,hF,s⟩;obtain⟨i,hi,rfl⟩:=mem_dedup hF;obtain⟨j,hj,q,h2⟩:=(subs_desc o M.n 0 _ X (by omega) (d i hi)).1 s;exact⟨j,by omega,(lv_desc o (dedup T L) j hj X).2 ⟨_,hF,q⟩,h2⟩
theorem sizeN_nodup (M:Mdl) (T:Nat→Nat→Bool) (L:Nat):((prt (fun i=>(M.v i:Int)) M.n (dedup T L) (min M.n 8+1)).1.map encT).Nodup:=by
 unfold List.Nodup;rw[List.pairwise_map];exact(pw_prt _ _ _ _).imp fun q e=>q ((encT_iff _ _).1 e)
end
end Go.Proofs.YtnnmdkaoiofabaaGreat
