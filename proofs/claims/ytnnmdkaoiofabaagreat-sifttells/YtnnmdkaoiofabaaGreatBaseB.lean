/-
  The probe, without a program: which slots are asked for a key, what a finder's step does, what holds of table and finders whatever turns they take. A table and a finder in memory; what each inner call of package utable does to them. What each call of a finder does: its steps one by one, and what it tells. What a finder's claim and its yield do. What each call of package utable's face does: New, Find, Step, Done, Slot, Made, At, Slots. What New, Find, Len, Has and Clear do. What Has and Clear do. A step of a finder; a finder that steps while nobody else does: what it comes to.
-/
import Derived.Test.YtnnmdkaoiofabaaGreatBaseA
import Derived.Deep.RegionWith
import Derived.Deep.CutRange
import Derived.BigRegion
import Derived.Deep.LoopGhost
namespace Go.Proofs.YtnnmdkaoiofabaaGreat.Tb
open Go Go.RowKit
theorem upd_same (c:Nat→Int) (i:Nat) (v:Int):upd c i v i=v:=by simp[upd]
theorem upd_other (c:Nat→Int){i j:Nat}(v:Int) (h:j≠i):upd c i v j=c j:=by simp[upd,h]
def place (n:Nat) (k:Int) (j:Nat):Nat:=(home k n+j) % n
theorem place_lt {n:Nat}(k:Int) (j:Nat) (h:1≤n):place n k j<n:=Nat.mod_lt _ h
theorem place_zero {n:Nat}(k:Int) (h:1≤n):place n k 0=home k n:=by
 unfold place;rw[Nat.add_zero];exact Nat.mod_eq_of_lt (home_lt k h)
theorem place_next {n:Nat}(k:Int) (j:Nat):(place n k j+1) % n=place n k (j+1):=by
 unfold place;rw[Nat.mod_add_mod];rfl
theorem place_form {n:Nat}(k:Int){j:Nat}(h:1≤n) (hj:j<n):place n k j=if home k n+j<n then home k n+j else home k n+j-n:=by
 have hh:=home_lt k h;unfold place;by_cases c:home k n+j<n
 ·rw[if_pos c,Nat.mod_eq_of_lt c]
 ·rw[if_neg c,Nat.mod_eq_sub_mod (by omega),Nat.mod_eq_of_lt (by omega)]
theorem place_inj {n:Nat}{k:Int}{i j:Nat}(h:1≤n) (hi:i<n) (hj:j<n) (e:place n k i=place n k j):i=j:=by
 have hh:=home_lt k h;rw[place_form k h hi,place_form k h hj]at e;by_cases c:home k n+i<n <;> by_cases d:home k n+j<n <;> simp only[c,d,if_true,if_false]at e <;> omega
theorem place_onto {n:Nat}(k:Int){s:Nat}(h:s<n):∃j,j<n∧place n k j=s:=by
 have hh:=home_lt k (n:=n) (by omega);by_cases c:home k n≤s
 ·refine⟨s-home k n,by omega,?_⟩;rw[place_form k (by omega) (by omega),if_pos (by omega)];omega
 ·refine⟨s+n-home k n,by omega,?_⟩;rw[place_form k (by omega) (by omega),if_neg (by omega)];omega
structure Fd where
 key:Int
 slot:Nat
 left:Nat
 st:Nat
 found:Bool
 made:Bool
def Fd.passed (n:Nat) (S:Fd):Fd:=⟨S.key,(S.slot+1) % n,S.left-1,if S.left-1=0 then 0 else 1,S.found,S.made⟩
def Fd.over (S:Fd):Fd:=⟨S.key,S.slot,S.left,0,true,S.made⟩
def Fd.to (S:Fd) (st:Nat):Fd:=⟨S.key,S.slot,S.left,st,S.found,S.made⟩
def Fd.put (S:Fd):Fd:=⟨S.key,S.slot,S.left,0,true,true⟩
def Fd.nxt (n:Nat) (x:Int) (S:Fd):Fd:=
 if S.st=0 then S
 else if S.st=1 then (if x=S.key then S.over else if x=0 then S.to 2 else S.passed n)
 else if S.st=2 then (if x=0 then S.put else S.to 3)
 else (if x=S.key then S.over else S.passed n)
def Fd.after (t:Nat→Int) (S:Fd):Nat→Int:=if S.st=2∧t S.slot=0 then upd t S.slot S.key else t
def Fd.start (n:Nat) (k:Int):Fd:=⟨k,home k n,n,1,false,false⟩
def Fd.none (n:Nat):Fd:=⟨0,home 0 n,0,0,false,false⟩
def Fd.mu (S:Fd):Nat:=if S.st=0 then 0 else if S.st=1 then 3*S.left else if S.st=2 then 3*S.left-1 else 3*S.left-2
def Good (n:Nat) (t:Nat→Int):Prop:=∀k j,¬k=0→j<n→t (place n k j)=k→∀i,i<j→¬t (place n k i)=0∧¬t (place n k i)=k
def Grows (t t':Nat→Int):Prop:=∀i,¬t i=0→t' i=t i
structure FI (n:Nat) (t:Nat→Int) (S:Fd):Prop where
 key:¬S.key=0
 left:S.left≤n
 slot:0<S.left→S.slot=place n S.key (n-S.left)
 past:∀i,i<n-S.left→¬t (place n S.key i)=0∧¬t (place n S.key i)=S.key
 going:¬S.st=0→0<S.left∧S.found=false∧S.made=false
 held:¬S.st=0→¬S.st=1→¬S.st=2→¬t S.slot=0
 found:S.found=true→S.st=0∧0<S.left∧t S.slot=S.key
 full:S.st=0→S.found=false→S.left=0
 made:S.made=true→S.found=true
theorem Good.empty (n:Nat):Good n (fun _=>0):=fun _ _ hk _ e=>absurd e.symm hk
theorem Grows.refl (t:Nat→Int):Grows t t:=fun _ _=>rfl
theorem FI.grow {n:Nat}{t t':Nat→Int}{S:Fd}(h:FI n t S) (g:Grows t t'):FI n t' S:=by
 refine⟨h.key,h.left,h.slot,fun i hi=>?_,h.going,fun a b c=>?_,fun e=>?_,h.full,h.made⟩
 ·have:=h.past i hi;rw[g _ this.1];exact this
 ·have:=h.held a b c;rw[g _ this];exact this
 ·obtain⟨a,b,c⟩:=h.found e;exact⟨a,b,by rw[g _ (by rw[c];exact h.key)];exact c⟩
theorem after_grows (t:Nat→Int) (S:Fd):Grows t (S.after t):=by
 intro i hi;unfold Fd.after;split
 next c=>exact upd_other _ _ (fun e=>hi (by rw[e];exact c.2))
 next=>rfl
section
variable {n:Nat}{t:Nat→Int}{S:Fd}
theorem FI.start (h:1≤n) (t:Nat→Int){k:Int}(hk:¬k=0):FI n t (Fd.start n k):=by
 refine⟨hk,Nat.le_refl _,fun _=>?_,fun i hi=>?_,fun _=>⟨h,rfl,rfl⟩,fun _ c _=>absurd rfl c,fun e=>(by cases e),fun e=>(by cases e),fun e=>(by cases e)⟩
 ·show home k n=place n k (n-n);rw[Nat.sub_self,place_zero k h]
 ·exact absurd hi (by show ¬i<n-n;omega)
theorem FI.slot_lt (h:FI n t S) (hn:1≤n) (hl:0<S.left):S.slot<n:=by rw[h.slot hl];exact place_lt _ _ hn
theorem Good.step (g:Good n t) (h:FI n t S) (hn:1≤n):Good n (S.after t):=by
 by_cases c:S.st=2∧t S.slot=0
 ·have hs:¬S.st=0:=by omega
  obtain⟨hl,_⟩:=h.going hs;have hl2:=h.left;have es:=h.slot hl;have gr:=after_grows t S;intro k j hk hj e i hi;by_cases d:place n k j=S.slot
  ·have hkk:k=S.key:=by
    unfold Fd.after at e;rw[if_pos c,d,upd_same]at e;exact e.symm
   subst hkk;have hj':j=n-S.left:=place_inj hn hj (by omega) (by rw[d,es]);have:=h.past i (by omega);rw[gr _ this.1];exact this
  ·have e':t (place n k j)=k:=by
    unfold Fd.after at e;rw[if_pos c,upd_other _ _ d]at e;exact e
   have:=g k j hk hj e' i hi;rw[gr _ this.1];exact this
 ·unfold Fd.after;rw[if_neg c];exact g
theorem FI.step (h:FI n t S):FI n (S.after t) (S.nxt n (t S.slot)):=by
 have hg:=h.grow (after_grows t S);have passd:¬S.st=0→¬S.st=2→¬t S.slot=0→¬t S.slot=S.key→FI n (S.after t) (S.passed n):=by
  intro h0 h2 hz hk;obtain⟨hl,hf,hm⟩:=h.going h0;have hl2:=h.left;have es:=h.slot hl;have ea:S.after t=t:=by unfold Fd.after;rw[if_neg (fun c=>h2 c.1)]
  rw[ea];refine⟨h.key,by show S.left-1≤n;omega,fun hl'=>?_,fun i hi=>?_,fun hst=>⟨?_,hf,hm⟩,fun a b _=>?_,fun e=>?_,fun e _=>?_,fun e=>?_⟩
  ·show (S.slot+1) % n=place n S.key (n-(S.left-1));rw[es,place_next,show n-(S.left-1)=n-S.left+1 by omega]
  ·show ¬t (place n S.key i)=0∧¬t (place n S.key i)=S.key;have hi':i<n-(S.left-1):=hi;by_cases c:i<n-S.left
   ·exact h.past i c
   ·have:i=n-S.left:=by omega
    rw[this,← es];exact⟨hz,hk⟩
  ·show 0<S.left-1;have hst':¬(if S.left-1=0 then 0 else 1)=0:=hst;by_cases c:S.left-1=0
   ·rw[if_pos c]at hst';exact absurd rfl hst'
   ·omega
  ·have a':¬(if S.left-1=0 then 0 else 1)=0:=a;have b':¬(if S.left-1=0 then 0 else 1)=1:=b;by_cases c:S.left-1=0
   ·rw[if_pos c]at a';exact absurd rfl a'
   ·rw[if_neg c]at b';exact absurd rfl b'
  ·have e':S.found=true:=e;rw[hf]at e';cases e'
  ·show S.left-1=0;have e':(if S.left-1=0 then 0 else 1)=0:=e;split at e'
   ·assumption
   ·cases e'
  ·have e':S.made=true:=e;rw[hm]at e';cases e'
 have over:¬S.st=0→¬S.st=2→t S.slot=S.key→FI n (S.after t) S.over:=by
  intro h0 h2 hk;obtain⟨hl,hf,hm⟩:=h.going h0;have ea:S.after t=t:=by unfold Fd.after;rw[if_neg (fun c=>h2 c.1)]
  rw[ea];refine⟨h.key,h.left,h.slot,h.past,fun hst=>absurd rfl hst,fun a=>absurd rfl a,fun _=>⟨rfl,hl,hk⟩,fun _ e=>(by cases e),fun _=>rfl⟩
 unfold Fd.nxt;by_cases h0:S.st=0
 ·rw[if_pos h0];exact hg
 ·rw[if_neg h0];obtain⟨hl,hf,hm⟩:=h.going h0;by_cases h1:S.st=1
  ·rw[if_pos h1];by_cases hk:t S.slot=S.key
   ·rw[if_pos hk];exact over h0 (by omega) hk
   ·rw[if_neg hk];by_cases hz:t S.slot=0
    ·rw[if_pos hz];exact⟨hg.key,hg.left,hg.slot,hg.past,fun _=>⟨hl,hf,hm⟩,fun _ _ c=>absurd rfl c,fun e=>(by have e':S.found=true:=e;rw[hf]at e';cases e'),fun e=>(by cases e),fun e=>(by have e':S.made=true:=e;rw[hm]at e';cases e')⟩
    ·rw[if_neg hz];exact passd h0 (by omega) hz hk
  ·rw[if_neg h1];by_cases h2:S.st=2
   ·rw[if_pos h2];by_cases hz:t S.slot=0
    ·rw[if_pos hz];refine⟨hg.key,hg.left,hg.slot,hg.past,fun hst=>absurd rfl hst,fun a=>absurd rfl a,fun _=>⟨rfl,hl,?_⟩,fun _ e=>(by cases e),fun _=>rfl⟩;show S.after t S.slot=S.key;unfold Fd.after;rw[if_pos ⟨h2,hz⟩,upd_same]
    ·rw[if_neg hz];refine⟨hg.key,hg.left,hg.slot,hg.past,fun _=>⟨hl,hf,hm⟩,fun _ _ _=>?_,fun e=>(by have e':S.found=true:=e;rw[hf]at e';cases e'),fun e=>(by cases e),fun e=>(by have e':S.made=true:=e;rw[hm]at e';cases e')⟩;show ¬S.after t S.slot=0;unfold Fd.after;rw[if_neg (fun c=>hz c.2)];exact hz
   ·rw[if_neg h2];by_cases hk:t S.slot=S.key
    ·rw[if_pos hk];exact over h0 h2 hk
    ·rw[if_neg hk];exact passd h0 h2 (h.held h0 h1 h2) hk
theorem FI.mu_step (h:FI n t S) (hs:¬S.st=0):(S.nxt n (t S.slot)).mu+1≤S.mu:=by
 obtain⟨hl,hf,hm⟩:=h.going hs;have pm:(S.passed n).mu≤3*(S.left-1):=by
  unfold Fd.mu Fd.passed;simp only;by_cases c:S.left-1=0 <;> simp[c]
 have om:S.over.mu=0:=rfl;have um:S.put.mu=0:=rfl;have t2:(S.to 2).mu=3*S.left-1:=rfl;have t3:(S.to 3).mu=3*S.left-2:=rfl;unfold Fd.nxt;rw[if_neg hs];by_cases h1:S.st=1
 ·have e:S.mu=3*S.left:=by unfold Fd.mu;rw[if_neg hs,if_pos h1]
  rw[if_pos h1,e];split
  ·omega
  ·split <;> omega
 ·rw[if_neg h1];by_cases h2:S.st=2
  ·have e:S.mu=3*S.left-1:=by unfold Fd.mu;rw[if_neg hs,if_neg h1,if_pos h2]
   rw[if_pos h2,e];split <;> omega
  ·have e:S.mu=3*S.left-2:=by unfold Fd.mu;rw[if_neg hs,if_neg h1,if_neg h2]
   rw[if_neg h2,e];split <;> omega
theorem nxt_done (x:Int) (hs:S.st=0):S.nxt n x=S:=by unfold Fd.nxt;rw[if_pos hs]
theorem after_done (t:Nat→Int) (hs:S.st=0):S.after t=t:=by unfold Fd.after;rw[if_neg (fun c=>by omega)]
theorem nxt_key (x:Int):(S.nxt n x).key=S.key:=by
 unfold Fd.nxt;split
 ·rfl
 ·split
  ·split
   ·rfl
   ·split <;> rfl
  ·split
   ·split <;> rfl
   ·split <;> rfl
theorem FI.all (h:FI n t S) (hs:S.st=0) (hf:S.found=false):∀s,s<n→¬t s=0∧¬t s=S.key:=by
 intro s hsn;obtain⟨j,hj,rfl⟩:=place_onto S.key hsn;have:=h.full hs hf;exact h.past j (by omega)
theorem Good.one (g:Good n t){k:Int}(hk:¬k=0){a b:Nat}(ha:a<n) (hb:b<n) (ea:t a=k) (eb:t b=k):a=b:=by
 obtain⟨i,hi,rfl⟩:=place_onto k ha;obtain⟨j,hj,rfl⟩:=place_onto k hb;rcases Nat.lt_trichotomy i j with c|c|c
 ·exact absurd ea (g k j hk hj eb i c).2
 ·rw[c]
 ·exact absurd eb (g k i hk hi ea j c).2
end
def cnt (t:Nat→Int):Nat→Nat
 | 0=>0
 | k+1=>cnt t k+if t k=0 then 0 else 1
theorem cnt_congr {t u:Nat→Int}(n:Nat) (h:∀i,i<n→t i=u i):cnt t n=cnt u n:=by
 induction n with
 | zero=>rfl
 | succ n ih=>simp only[cnt];rw[ih fun i hi=>h i (by omega),h n (by omega)]
theorem cnt_upd (t:Nat→Int){n s:Nat}{v:Int}(hs:s<n) (h0:t s=0) (hv:¬v=0):cnt (upd t s v) n=cnt t n+1:=by
 induction n with
 | zero=>omega
 | succ n ih =>
  simp only[cnt];by_cases c:s=n
  ·subst c;rw[cnt_congr s (fun i hi=>upd_other t v (show i≠s by omega)),upd_same,if_neg hv,if_pos h0]
  ·rw[ih (by omega),upd_other t v (show n≠s by omega)];omega
theorem cnt_full {t:Nat→Int}{n:Nat}(h:∀i,i<n→¬t i=0):cnt t n=n:=by
 induction n with
 | zero=>rfl
 | succ n ih=>simp only[cnt];rw[ih fun i hi=>h i (by omega),if_neg (h n (by omega))]
theorem cnt_zero (n:Nat):cnt (fun _=>0) n=0:=by
 induction n with
 | zero=>rfl
 | succ n ih=>simp only[cnt];rw[ih];rfl
end Go.Proofs.YtnnmdkaoiofabaaGreat.Tb
namespace Go.Proofs.YtnnmdkaoiofabaaGreat.Tb
open Go Go.RowKit
structure Sys (w:World) (P R N T base n:Nat) (c:Nat→Int) (ops fails:Int):Prop where
 mem:IsMem w P R N c ops fails
 tab:∃cs,w.heap[T]? = some (.cells cs 92 (0,0))∧cs[20]? = some (.pointer (some ⟨P,0,none⟩))∧cs[21]? = some (.int .i64 (base:Int))∧cs[22]? = some (.int .i64 (n:Int))
 room:base+n≤N
 pos:1≤n
 small:N≤262144
def nextV (F st:Nat):Value:=if st=0 then .nilFunc else if st=1 then .func (.func 178) #[.pointer (some ⟨F,0,none⟩)] #[]else if st=2 then .func (.func 188) #[.pointer (some ⟨F,0,none⟩)] #[]else .func (.func 197) #[.pointer (some ⟨F,0,none⟩)] #[]
def IsFd (w:World) (F T:Nat) (S:Fd):Prop:=
 w.heap[F]? = some (.cells #[.pointer (some ⟨T,20,none⟩),.int .u64 S.key,.int .i64 (S.slot:Int),.int .i64 (S.left:Int),nextV F S.st,.bool S.found,.bool S.made] 242 (0,0))
namespace Sys
variable {w w':World}{P R N T base n:Nat}{c c':Nat→Int}{ops fails o' f':Int}
theorem ltT (h:Sys w P R N T base n c ops fails):T<w.heap.size:=by obtain⟨cs,hb,_⟩:=h.tab;exact(Array.getElem?_eq_some_iff.1 hb).1
theorem neP (h:Sys w P R N T base n c ops fails):T≠P:=fun e=>by obtain⟨cs,a,_⟩:=h.tab;rw[e,h.mem.head]at a;simp at a
theorem neR (h:Sys w P R N T base n c ops fails):T≠R:=fun e=>by
 obtain⟨cs,hb,_⟩:=h.mem.row;obtain⟨cs',a,_⟩:=h.tab;rw[e,hb]at a;simp at a
theorem kept (h:Sys w P R N T base n c ops fails) (k:∀b,b=P∨b=R∨b=T→w'.heap[b]? = w.heap[b]?):Sys w' P R N T base n c ops fails:=
 ⟨h.mem.of_blocks (k _ (.inl rfl)) (k _ (.inr (.inl rfl))),let ⟨cs,hb,r⟩:=h.tab;⟨cs,(k _ (.inr (.inr rfl))).trans hb,r⟩,h.room,h.pos,h.small⟩
theorem moved (h:Sys w P R N T base n c ops fails) (m:IsMem w' P R N c' o' f') (k:Moved P R w w'):Sys w' P R N T base n c' o' f':=
 ⟨m,let ⟨cs,hb,r⟩:=h.tab;⟨cs,(k.block _ h.ltT h.neP h.neR).trans hb,r⟩,h.room,h.pos,h.small⟩
theorem drew (h:Sys w P R N T base n c ops fails):Sys w.drew P R N T base n c ops fails:=⟨h.mem.drew,h.tab,h.room,h.pos,h.small⟩
theorem t0 (h:Sys w P R N T base n c ops fails):w.cell? ⟨T,20,none⟩=some (.pointer (some ⟨P,0,none⟩)):=by obtain⟨cs,hb,h0,h1,h2⟩:=h.tab;simp[World.cell?,hb,h0]
theorem t1 (h:Sys w P R N T base n c ops fails):w.cell? ⟨T,21,none⟩=some (.int .i64 (base:Int)):=by obtain⟨cs,hb,h0,h1,h2⟩:=h.tab;simp[World.cell?,hb,h1]
theorem t2 (h:Sys w P R N T base n c ops fails):w.cell? ⟨T,22,none⟩=some (.int .i64 (n:Int)):=by obtain⟨cs,hb,h0,h1,h2⟩:=h.tab;simp[World.cell?,hb,h2]
theorem new (h:Sys w P R N T base n c ops fails) (o:Obj):Sys (w.alloc o) P R N T base n c ops fails:=
 h.kept fun _ hb=>Below.heap_alloc _ _ _ (hb.elim (fun e=>e ▸ h.mem.ltP) (fun e=>e.elim (fun e=>e ▸ h.mem.ltR) (fun e=>e ▸ h.ltT)))
theorem below (h:Sys w P R N T base n c ops fails) (k:Below w.heap.size w w'):Sys w' P R N T base n c ops fails:=
 h.kept fun _ hb=>k.block _ (hb.elim (fun e=>e ▸ h.mem.ltP) (fun e=>e.elim (fun e=>e ▸ h.mem.ltR) (fun e=>e ▸ h.ltT)))
end Sys
namespace IsFd
variable {w w':World}{F T:Nat}{S:Fd}
theorem lt (h:IsFd w F T S):F<w.heap.size:=(Array.getElem?_eq_some_iff.1 h).1
theorem f0 (h:IsFd w F T S):w.cell? ⟨F,0,none⟩=some (.pointer (some ⟨T,20,none⟩)):=by unfold IsFd at h;simp[World.cell?,h]
theorem f1 (h:IsFd w F T S):w.cell? ⟨F,1,none⟩=some (.int .u64 S.key):=by unfold IsFd at h;simp[World.cell?,h]
theorem f2 (h:IsFd w F T S):w.cell? ⟨F,2,none⟩=some (.int .i64 (S.slot:Int)):=by unfold IsFd at h;simp[World.cell?,h]
theorem f3 (h:IsFd w F T S):w.cell? ⟨F,3,none⟩=some (.int .i64 (S.left:Int)):=by unfold IsFd at h;simp[World.cell?,h]
theorem f4 (h:IsFd w F T S):w.cell? ⟨F,4,none⟩=some (nextV F S.st):=by unfold IsFd at h;simp[World.cell?,h]
theorem f5 (h:IsFd w F T S):w.cell? ⟨F,5,none⟩=some (.bool S.found):=by unfold IsFd at h;simp[World.cell?,h]
theorem f6 (h:IsFd w F T S):w.cell? ⟨F,6,none⟩=some (.bool S.made):=by unfold IsFd at h;simp[World.cell?,h]
theorem free (h:IsFd w F T S) (i:Nat):w.frozen? ⟨F,i,none⟩=false:=by unfold IsFd at h;simp[World.frozen?,h]
theorem kept (h:IsFd w F T S) (k:w'.heap[F]? = w.heap[F]?):IsFd w' F T S:=k.trans h
theorem set2 (h:IsFd w F T S) (s:Nat):IsFd (w.setCell ⟨F,2,none⟩ (.int .i64 (s:Int))) F T ⟨S.key,s,S.left,S.st,S.found,S.made⟩:=by unfold IsFd at *;simp[World.setCell,Array.getElem?_modify,h]
theorem set3 (h:IsFd w F T S) (l:Nat):IsFd (w.setCell ⟨F,3,none⟩ (.int .i64 (l:Int))) F T ⟨S.key,S.slot,l,S.st,S.found,S.made⟩:=by unfold IsFd at *;simp[World.setCell,Array.getElem?_modify,h]
theorem set4 (h:IsFd w F T S) (st:Nat):IsFd (w.setCell ⟨F,4,none⟩ (nextV F st)) F T ⟨S.key,S.slot,S.left,st,S.found,S.made⟩:=by unfold IsFd at *;simp[World.setCell,Array.getElem?_modify,h]
theorem set5 (h:IsFd w F T S) (b:Bool):IsFd (w.setCell ⟨F,5,none⟩ (.bool b)) F T ⟨S.key,S.slot,S.left,S.st,b,S.made⟩:=by unfold IsFd at *;simp[World.setCell,Array.getElem?_modify,h]
theorem set6 (h:IsFd w F T S) (b:Bool):IsFd (w.setCell ⟨F,6,none⟩ (.bool b)) F T ⟨S.key,S.slot,S.left,S.st,S.found,b⟩:=by unfold IsFd at *;simp[World.setCell,Array.getElem?_modify,h]
section
variable {P R N T' base n:Nat}{c:Nat→Int}{ops fails:Int}
theorem neP (h:IsFd w F T S) (k:IsMem w P R N c ops fails):F≠P:=fun e=>by unfold IsFd at h;rw[e,k.head]at h;simp at h
theorem neR (h:IsFd w F T S) (k:IsMem w P R N c ops fails):F≠R:=fun e=>by
 obtain⟨cs,hb,_⟩:=k.row;unfold IsFd at h;rw[e,hb]at h;simp at h
theorem neT (h:IsFd w F T S) (k:Sys w P R N T' base n c ops fails):F≠T':=fun e=>by obtain⟨cs,hb,_⟩:=k.tab;unfold IsFd at h;rw[e,hb]at h;simp at h
end
end IsFd
theorem Sys.setF {w:World}{P R N T base n F T':Nat}{c:Nat→Int}{ops fails:Int}{S:Fd}(h:Sys w P R N T base n c ops fails) (k:IsFd w F T' S) (o:Nat) (v:Value):Sys (w.setCell ⟨F,o,none⟩ v) P R N T base n c ops fails:=
 h.kept fun _ hb=>Below.heap_setCell _ _ _ _ (hb.elim (fun e=>e ▸ (k.neP h.mem).symm) (fun e=>e.elim (fun e=>e ▸ (k.neR h.mem).symm) (fun e=>e ▸ (k.neT h).symm)))
theorem IsFd.moved {w w':World}{P R N F T:Nat}{c:Nat→Int}{ops fails:Int}{S:Fd}(h:IsFd w F T S) (k:IsMem w P R N c ops fails) (m:Moved P R w w'):IsFd w' F T S:=
 h.kept (m.block _ h.lt (h.neP k) (h.neR k))
section
variable {w:World}{P R N T base n F:Nat}{c:Nat→Int}{ops fails:Int}{S:Fd}
theorem load_any (h:Sys w P R N T base n c ops fails) (s:Nat) (hs:s<n) :
  Calls Tryz.prog 169 #[.pointer (some ⟨T,20,none⟩),.int .i64 (s:Int)] w fun e w'=>e = .returned (.int .u64 (c (base+s)))∧Sys w' P R N T base n c (wrap64 (ops+1)) fails∧Moved P R w w':=by
 have t0:=h.t0;have t1:=h.t1;have hr:=h.room;have hsm:=h.small;have hw:Aside (IntKind.i64.wrap ((base:Int)+(s:Int))=((base+s:Nat):Int)):=by simp only[Aside];rw[IntKind.wrap_i64];omega
 have K:=load_in P R N c ops fails w.drew (base+s) (by omega) h.mem.drew;go_enter Tryz.func169,Tryz.ntmps169
 go_wp2_with fail
 go_region_with (first
  | (go_at_call 179;rw[hw.out];refine K.mono ?_;clear K;rintro e w1 ⟨rfl,m1,b1⟩))
 all_goals go_wp2_with fail
 all_goals (go_ret;exact⟨rfl,h.moved m1 b1.undrew,b1.undrew⟩)
theorem swap_hit (h:Sys w P R N T base n c ops fails) (s:Nat) (hs:s<n) (k:Int) (h0:c (base+s)=0) :
  Calls Tryz.prog 196 #[.pointer (some ⟨T,20,none⟩),.int .i64 (s:Int),.int .u64 k] w fun e w'=>e = .returned (.bool true)∧Sys w' P R N T base n (upd c (base+s) k) (wrap64 (ops+1)) fails∧Moved P R w w':=by
 have t0:=h.t0;have t1:=h.t1;have hr:=h.room;have hsm:=h.small;have hw:Aside (IntKind.i64.wrap ((base:Int)+(s:Int))=((base+s:Nat):Int)):=by simp only[Aside];rw[IntKind.wrap_i64];omega
 have K:=cas_hit P R N c ops fails w.drew (base+s) k (by omega) h.mem.drew;rw[h0]at K;go_enter Tryz.func196,Tryz.ntmps196
 go_wp2_with fail
 go_region_with (first
  | (go_at_call 191;rw[hw.out];refine K.mono ?_;clear K;rintro e w1 ⟨rfl,m1,b1⟩))
 all_goals go_wp2_with fail
 all_goals (go_ret;exact⟨rfl,h.moved m1 b1.undrew,b1.undrew⟩)
theorem swap_miss (h:Sys w P R N T base n c ops fails) (s:Nat) (hs:s<n) (k:Int) (h0:¬c (base+s)=0) :
  Calls Tryz.prog 196 #[.pointer (some ⟨T,20,none⟩),.int .i64 (s:Int),.int .u64 k] w fun e w'=>e = .returned (.bool false)∧Sys w' P R N T base n c (wrap64 (ops+1)) (wrap64 (fails+1))∧Moved P R w w':=by
 have t0:=h.t0;have t1:=h.t1;have hr:=h.room;have hsm:=h.small;have hw:Aside (IntKind.i64.wrap ((base:Int)+(s:Int))=((base+s:Nat):Int)):=by simp only[Aside];rw[IntKind.wrap_i64];omega
 have K:=cas_miss P R N c ops fails w.drew (base+s) 0 k (by omega) h0 h.mem.drew;clear h0;go_enter Tryz.func196,Tryz.ntmps196
 go_wp2_with fail
 go_region_with (first
  | (go_at_call 191;rw[hw.out];refine K.mono ?_;clear K;rintro e w1 ⟨rfl,m1,b1⟩))
 all_goals go_wp2_with fail
 all_goals (go_ret;exact⟨rfl,h.moved m1 b1.undrew,b1.undrew⟩)
theorem behind_any (h:Sys w P R N T base n c ops fails) (s:Nat) (hs:s<n) :
  Calls Tryz.prog 170 #[.pointer (some ⟨T,20,none⟩),.int .i64 (s:Int)] w fun e w'=>e = .returned (.int .i64 (((s+1) % n:Nat):Int))∧w'=w:=by
 have t2:=h.t2;have hr:=h.room;have hsm:=h.small;have hp:=h.pos;have hn0:¬(n:Int)=0:=by omega
 have hn1:((n:Int) == 0)=false:=by simpa using hn0
 have e1:(((s+1) % n:Nat):Int)=((s:Int)+1) % (n:Int):=by simp
 have r0:0≤((s:Int)+1) % (n:Int):=Int.emod_nonneg _ (by omega);have r1:((s:Int)+1) % (n:Int)<n:=Int.emod_lt_of_pos _ (by omega);have r2:Int.tmod ((s:Int)+1) (n:Int)=((s:Int)+1) % (n:Int):=Int.tmod_eq_emod_of_nonneg (by omega);rw[e1];clear e1;go_enter Tryz.func170,Tryz.ntmps170
 go_wp2
 go_ret
 exact⟨rfl,rfl⟩
end
end Go.Proofs.YtnnmdkaoiofabaaGreat.Tb
namespace Go.Proofs.YtnnmdkaoiofabaaGreat.Tb
open Go Go.RowKit
theorem mkf : ∀(fn:Fn) (first cap:Array Value) (w:World),(Instr.makeFunc fn first cap).run Tryz.prog w = .ok (.func fn first cap) w:=fun _ _ _ _=>rfl
theorem next0 (F:Nat):nextV F 0 = .nilFunc:=rfl
theorem next1 (F:Nat):nextV F 1 = .func (.func 178) #[.pointer (some ⟨F,0,none⟩)] #[]:=rfl
theorem run_store_nil (w:World) (a:Addr) (m:Mode) (hc:(w.cell? a).isSome=true) (hf:w.frozen? a=false):(store a .nilFunc m).run Tryz.prog w = .ok () (w.setCell a .nilFunc):=by
 rw[run_store _ _ _ _ _ rfl];cases h:w.cell? a with
 | none=>rw[h]at hc;cases hc
 | some v=>simp[hf]
theorem run_store_func (fn:Fn) (x y:Array Value) (w:World) (a:Addr) (m:Mode) (hc:(w.cell? a).isSome=true) (hf:w.frozen? a=false):(store a (.func fn x y) m).run Tryz.prog w = .ok () (w.setCell a (.func fn x y)):=by
 rw[run_store _ _ _ _ _ rfl];cases h:w.cell? a with
 | none=>rw[h]at hc;cases hc
 | some v=>simp[hf]
attribute [local go_sem] run_store_nil run_store_func
def Only (F:Nat) (w w':World):Prop:=Went (fun k=>k=F) w w'
theorem Only.set (F o:Nat) (w:World) (v:Value):Only F w (w.setCell ⟨F,o,none⟩ v):=Went.set (S:=fun k=>k=F) (rfl:F=F) w v
section
variable {w w':World}{P R N T base n F:Nat}{c:Nat→Int}{ops fails:Int}{S:Fd}
theorem Sys.only {T':Nat}(h:Sys w P R N T base n c ops fails) (k:IsFd w F T' S) (o:Only F w w'):Sys w' P R N T base n c ops fails:=by
 refine h.kept fun b hb=>o.block b ?_ ?_
 ·rcases hb with rfl|rfl|rfl
  ·exact h.mem.ltP
  ·exact h.mem.ltR
  ·exact h.ltT
 ·rcases hb with rfl|rfl|rfl
  ·exact fun e=>k.neP h.mem e.symm
  ·exact fun e=>k.neR h.mem e.symm
  ·exact fun e=>k.neT h e.symm
theorem ask_any (h:IsFd w F T S) (l:Nat) :
  Calls Tryz.prog 163 #[.pointer (some ⟨F,0,none⟩),.int .i64 (l:Int)] w fun e w'=>e = .returned (.tuple #[])∧IsFd w' F T ⟨S.key,S.slot,l,if l=0 then 0 else 1,S.found,S.made⟩∧Only F w w':=by
 have hmf:=mkf;have c3:=h.f3;have c4:=h.f4;have g:=h.free;have h2:=(h.set3 l).set4 0;have h3:=h2.set4 1;have o2:Only F w ((w.setCell ⟨F,3,none⟩ (.int .i64 (l:Int))).setCell ⟨F,4,none⟩ .nilFunc):=(Only.set F 3 w _).trans (Only.set F 4 _ _);rw[next0]at h2;rw[next0,next1]at h3;have c4':((w.setCell ⟨F,3,none⟩ (.int .i64 (l:Int))).setCell ⟨F,4,none⟩ .nilFunc).cell? ⟨F,4,none⟩=some .nilFunc:=h2.f4;have g4':=h2.free 4;generalize nextV F S.st=nv at c4;by_cases hl:l=0
 ·subst hl;rw[if_pos rfl];go_enter Tryz.func163,Tryz.ntmps163
  go_wp2
  go_end0
  exact⟨rfl,h2,o2⟩
 ·have hd:decide ((l:Int) > 0)=true:=by simp;omega
  have hd':(0:Int)<(l:Int):=by omega
  rw[if_neg hl];clear hl;go_enter Tryz.func163,Tryz.ntmps163
  go_wp2
  go_end0
  exact⟨rfl,h3,o2.trans (Only.set F 4 _ _)⟩
theorem end_any (h:IsFd w F T S) :
  Calls Tryz.prog 187 #[.pointer (some ⟨F,0,none⟩)] w fun e w'=>e = .returned (.tuple #[])∧IsFd w' F T S.over∧Only F w w':=by
 have c5:=h.f5;have c4:=h.f4;have g:=h.free;have h2:=(h.set5 true).set4 0;rw[next0]at h2;generalize nextV F S.st=nv at c4;go_enter Tryz.func187,Tryz.ntmps187
 go_wp2
 go_end0
 exact⟨rfl,h2,(Only.set F 5 w _).trans (Only.set F 4 _ _)⟩
theorem pass_any (h:Sys w P R N T base n c ops fails) (k:IsFd w F T S) (hs:S.slot<n) (hl:0<S.left) (hln:S.left≤n) :
  Calls Tryz.prog 189 #[.pointer (some ⟨F,0,none⟩)] w fun e w'=>e = .returned (.tuple #[])∧IsFd w' F T (S.passed n)∧Only F w w':=by
 have c0:=k.f0;have c2:=k.f2;have g:=k.free;have K:=behind_any h.drew S.slot hs;have hQ:Aside (S.passed n=⟨S.key,(S.slot+1) % n,S.left-1,if S.left-1=0 then 0 else 1,S.found,S.made⟩):=rfl;generalize (S.slot+1) % n=q at K hQ;have k2:IsFd (w.setCell ⟨F,2,none⟩ (.int .i64 (q:Int))).drew F T ⟨S.key,q,S.left,S.st,S.found,S.made⟩:=k.set2 q;have o2:Only F w (w.setCell ⟨F,2,none⟩ (.int .i64 (q:Int))).drew:=(Only.set F 2 w _).drew;have hle:=h.small;have hro:=h.room;have c3:=k.f3;have Ka:=ask_any k2 (S.left-1);have hl1:(S.left:Int)-1=((S.left-1:Nat):Int):=by omega
 go_enter Tryz.func189,Tryz.ntmps189
 go_wp2_with fail
 go_region_with (first
  | (go_at_call 170;refine K.mono ?_;clear K;rintro e w1 ⟨rfl,rfl⟩))
 all_goals go_wp2_with (first
  | (go_at_call 163;refine Ka.mono ?_;clear Ka;rintro e w3 ⟨rfl,k3,o3⟩))
 all_goals (go_end0;rw[hQ.out];exact⟨rfl,k3,o2.trans o3⟩)
def Foot (P R F:Nat):Nat→Prop:=fun b=>b=P∨b=R∨b=F
theorem foot_m {w':World}(h:Moved P R w w'):Went (Foot P R F) w w':=Went.of_moved h (.inl rfl) (.inr (.inl rfl))
theorem foot_o {w':World}(h:Only F w w'):Went (Foot P R F) w w':=Went.wider h fun _ e=>.inr (.inr e)
theorem look_hit (h:Sys w P R N T base n c ops fails) (k:IsFd w F T S) (hs:S.slot<n) (hx:c (base+S.slot)=S.key) :
  Calls Tryz.prog 178 #[.pointer (some ⟨F,0,none⟩)] w fun e w'=>e = .returned (.tuple #[])∧Sys w' P R N T base n c (wrap64 (ops+1)) fails∧IsFd w' F T S.over∧Went (Foot P R F) w w':=by
 have c0:=k.f0;have c2:=k.f2;have K:=load_any h.drew S.slot hs;rw[hx]at K;have hd:(S.key == S.key)=true:=by simp
 go_enter Tryz.func178,Tryz.ntmps178
 go_wp2_with fail
 go_region_with (first
  | (go_at_call 169;refine K.mono ?_;clear K;rintro e w1 ⟨rfl,h1,b1⟩;have k1:IsFd w1 F T S:=k.moved h.mem b1.undrew;have c1:=k1.f1;have Ke:=end_any k1))
 all_goals go_wp2_with (first
  | (go_at_call 187;refine Ke.mono ?_;clear Ke;rintro e w2 ⟨rfl,k2,o2⟩))
 all_goals (go_end0;exact⟨rfl,h1.only k1 o2,k2,(foot_m b1.undrew).trans (foot_o o2)⟩)
theorem look_empty (h:Sys w P R N T base n c ops fails) (k:IsFd w F T S) (hs:S.slot<n) (hk:¬S.key=0) (hx:c (base+S.slot)=0) :
  Calls Tryz.prog 178 #[.pointer (some ⟨F,0,none⟩)] w fun e w'=>e = .returned (.tuple #[])∧Sys w' P R N T base n c (wrap64 (ops+1)) fails∧IsFd w' F T (S.to 2)∧Went (Foot P R F) w w':=by
 have hmf:=mkf;have c0:=k.f0;have c2:=k.f2;have K:=load_any h.drew S.slot hs;rw[hx]at K;have hd:(0 == S.key)=false:=by simp;exact fun e=>hk e.symm
 have hd2:¬ 0=S.key:=fun e=>hk e.symm
 clear hk;go_enter Tryz.func178,Tryz.ntmps178
 go_wp2_with fail
 go_region_with (first
  | (go_at_call 169;refine K.mono ?_;clear K;rintro e w1 ⟨rfl,h1,b1⟩;have k1:IsFd w1 F T S:=k.moved h.mem b1.undrew;have c1:=k1.f1;have c4:=k1.f4;have g1:=k1.free 4))
 all_goals go_wp2_with fail
 all_goals (go_end0;exact⟨rfl,h1.setF k1 _ _,k1.set4 2,(foot_m b1.undrew).trans (foot_o (Only.set F 4 w1 _))⟩)
theorem look_pass (h:Sys w P R N T base n c ops fails) (k:IsFd w F T S) (hs:S.slot<n) (hl:0<S.left) (hln:S.left≤n) (x:Int) (hx:c (base+S.slot)=x) (h0:¬x=0) (h1:¬x=S.key) :
  Calls Tryz.prog 178 #[.pointer (some ⟨F,0,none⟩)] w fun e w'=>e = .returned (.tuple #[])∧Sys w' P R N T base n c (wrap64 (ops+1)) fails∧IsFd w' F T (S.passed n)∧Went (Foot P R F) w w':=by
 have c0:=k.f0;have c2:=k.f2;have K:=load_any h.drew S.slot hs;rw[hx]at K;have hd:(x == S.key)=false:=by simpa using h1
 have hd2:(x == 0)=false:=by simpa using h0
 go_enter Tryz.func178,Tryz.ntmps178
 go_wp2_with fail
 go_region_with (first
  | (go_at_call 169;refine K.mono ?_;clear K;rintro e w1 ⟨rfl,h1,b1⟩;have k1:IsFd w1 F T S:=k.moved h.mem b1.undrew;have c1:=k1.f1;have Kp:=pass_any h1 k1 hs hl hln))
 all_goals go_wp2_with (first
  | (go_at_call 189;refine Kp.mono ?_;clear Kp;rintro e w2 ⟨rfl,k2,o2⟩))
 all_goals (go_end0;exact⟨rfl,h1.only k1 o2,k2,(foot_m b1.undrew).trans (foot_o o2)⟩)
end
end Go.Proofs.YtnnmdkaoiofabaaGreat.Tb
namespace Go.Proofs.YtnnmdkaoiofabaaGreat.Tb
open Go Go.RowKit
attribute [local go_sem] run_store_nil run_store_func
section
variable {w w':World}{P R N T base n F:Nat}{c:Nat→Int}{ops fails:Int}{S:Fd}
set_option maxHeartbeats 2000000 in
theorem claim_hit (h:Sys w P R N T base n c ops fails) (k:IsFd w F T S) (hs:S.slot<n) (hx:c (base+S.slot)=0) :
  Calls Tryz.prog 188 #[.pointer (some ⟨F,0,none⟩)] w fun e w'=>e = .returned (.tuple #[])∧Sys w' P R N T base n (upd c (base+S.slot) S.key) (wrap64 (ops+1)) fails∧IsFd w' F T S.put∧Went (Foot P R F) w w':=by
 have c0:=k.f0;have c1:=k.f1;have c2:=k.f2;have K:=swap_hit h.drew S.slot hs S.key hx;go_enter Tryz.func188,Tryz.ntmps188
 go_wp2_with fail
 go_region_with (first
  | (go_at_call 196;refine K.mono ?_;clear K;rintro e w1 ⟨rfl,h1,b1⟩;have k1:IsFd w1 F T S:=k.moved h.mem b1.undrew;have c6:=k1.f6;have g1:=k1.free 6;have k2:=k1.set6 true;have Ke:=end_any k2))
 all_goals go_wp2_with (first
  | (go_at_call 187;refine Ke.mono ?_;clear Ke;rintro e w2 ⟨rfl,k3,o2⟩))
 all_goals (refine bodyPost_ret (results_none rfl _ _ _) rfl ?_;exact⟨rfl,(h1.setF k1 _ _).only k2 o2,k3,(foot_m b1.undrew).trans ((foot_o (Only.set F 6 w1 _)).trans (foot_o o2))⟩)
set_option maxHeartbeats 2000000 in
theorem claim_miss (h:Sys w P R N T base n c ops fails) (k:IsFd w F T S) (hs:S.slot<n) (hx:¬c (base+S.slot)=0) :
  Calls Tryz.prog 188 #[.pointer (some ⟨F,0,none⟩)] w fun e w'=>e = .returned (.tuple #[])∧Sys w' P R N T base n c (wrap64 (ops+1)) (wrap64 (fails+1))∧IsFd w' F T (S.to 3)∧Went (Foot P R F) w w':=by
 have hmf:=mkf;have c0:=k.f0;have c1:=k.f1;have c2:=k.f2;have K:=swap_miss h.drew S.slot hs S.key hx;clear hx;go_enter Tryz.func188,Tryz.ntmps188
 go_wp2_with fail
 go_region_with (first
  | (go_at_call 196;refine K.mono ?_;clear K;rintro e w1 ⟨rfl,h1,b1⟩;have k1:IsFd w1 F T S:=k.moved h.mem b1.undrew;have c4:=k1.f4;have g1:=k1.free 4))
 all_goals go_wp2_with fail
 all_goals (go_end0;exact⟨rfl,h1.setF k1 _ _,k1.set4 3,(foot_m b1.undrew).trans (foot_o (Only.set F 4 w1 _))⟩)
set_option maxHeartbeats 2000000 in
theorem yield_hit (h:Sys w P R N T base n c ops fails) (k:IsFd w F T S) (hs:S.slot<n) (hx:c (base+S.slot)=S.key) :
  Calls Tryz.prog 197 #[.pointer (some ⟨F,0,none⟩)] w fun e w'=>e = .returned (.tuple #[])∧Sys w' P R N T base n c (wrap64 (ops+1)) fails∧IsFd w' F T S.over∧Went (Foot P R F) w w':=by
 have c0:=k.f0;have c1:=k.f1;have c2:=k.f2;have K:=load_any h.drew S.slot hs;rw[hx]at K;have hd:(S.key == S.key)=true:=by simp
 go_enter Tryz.func197,Tryz.ntmps197
 go_wp2_with fail
 go_region_with (first
  | (go_at_call 169;refine K.mono ?_;clear K;rintro e w1 ⟨rfl,h1,b1⟩;have k1:IsFd w1 F T S:=k.moved h.mem b1.undrew;have c1':=k1.f1;have Ke:=end_any k1))
 all_goals go_wp2_with (first
  | (go_at_call 187;refine Ke.mono ?_;clear Ke;rintro e w2 ⟨rfl,k2,o2⟩))
 all_goals (refine bodyPost_ret (results_none rfl _ _ _) rfl ?_;exact⟨rfl,h1.only k1 o2,k2,(foot_m b1.undrew).trans (foot_o o2)⟩)
set_option maxHeartbeats 2000000 in
theorem yield_pass (h:Sys w P R N T base n c ops fails) (k:IsFd w F T S) (hs:S.slot<n) (hl:0<S.left) (hln:S.left≤n) (x:Int) (hx:c (base+S.slot)=x) (h1:¬x=S.key) :
  Calls Tryz.prog 197 #[.pointer (some ⟨F,0,none⟩)] w fun e w'=>e = .returned (.tuple #[])∧Sys w' P R N T base n c (wrap64 (ops+1)) fails∧IsFd w' F T (S.passed n)∧Went (Foot P R F) w w':=by
 have c0:=k.f0;have c1:=k.f1;have c2:=k.f2;have K:=load_any h.drew S.slot hs;rw[hx]at K;have hd:(x == S.key)=false:=by simpa using h1
 go_enter Tryz.func197,Tryz.ntmps197
 go_wp2_with fail
 go_region_with (first
  | (go_at_call 169;refine K.mono ?_;clear K;rintro e w1 ⟨rfl,h1,b1⟩;have k1:IsFd w1 F T S:=k.moved h.mem b1.undrew;have c1':=k1.f1;have Kp:=pass_any h1 k1 hs hl hln))
 all_goals go_wp2_with (first
  | (go_at_call 189;refine Kp.mono ?_;clear Kp;rintro e w2 ⟨rfl,k2,o2⟩))
 all_goals (go_end0;exact⟨rfl,h1.only k1 o2,k2,(foot_m b1.undrew).trans (foot_o o2)⟩)
end
end Go.Proofs.YtnnmdkaoiofabaaGreat.Tb
namespace Go.Proofs.YtnnmdkaoiofabaaGreat.Tb
open Go Go.RowKit
attribute [local go_sem] run_store_nil run_store_func
section
variable {w w':World}{P R N T base n F:Nat}{c:Nat→Int}{ops fails:Int}{S:Fd}
theorem nil_nil (w:World):(binOp .eql 1 .nilFunc .nilFunc).run Tryz.prog w = .ok (.bool true) w:=by kernel_rfl
theorem fun_nil (fn:Fn) (x y:Array Value) (w:World):(binOp .eql 1 (.func fn x y) .nilFunc).run Tryz.prog w = .ok (.bool false) w:=by kernel_rfl
theorem done_any (k:IsFd w F T S) :
  Calls Tryz.prog 164 #[.pointer (some ⟨F,0,none⟩)] w fun e w'=>e = .returned (.bool (decide (S.st=0)))∧w'=w:=by
 have c4:=k.f4;have q1:=nil_nil;have q2:=fun_nil;by_cases h0:S.st=0
 ·rw[h0,next0]at c4;rw[decide_eq_true h0];clear h0;go_enter Tryz.func164,Tryz.ntmps164
  go_wp2
  go_ret
  exact⟨rfl,rfl⟩
 ·obtain⟨fn,x,y,e⟩:∃fn x y,nextV F S.st = .func fn x y:=by
   unfold nextV;rw[if_neg h0];split
   ·exact⟨_,_,_,rfl⟩
   ·split <;> exact⟨_,_,_,rfl⟩
  rw[e]at c4;rw[decide_eq_false h0];clear h0 e;go_enter Tryz.func164,Tryz.ntmps164
  go_wp2
  go_ret
  exact⟨rfl,rfl⟩
def Fd.turn (base:Nat) (c:Nat→Int) (S:Fd):Nat→Int:=if S.st=2∧c (base+S.slot)=0 then upd c (base+S.slot) S.key else c
def opsOn (ops:Int) (S:Fd):Int:=if S.st=0 then ops else wrap64 (ops+1)
def failsOn (fails:Int) (x:Int) (S:Fd):Int:=if S.st=2∧¬x=0 then wrap64 (fails+1)else fails
theorem next_any (h:Sys w P R N T base n c ops fails) (k:IsFd w F T S) (hk:¬S.key=0) (h0:¬S.st=0) (hl:0<S.left) (hln:S.left≤n) (hs:S.slot<n) (f:Nat) (hf:f=if S.st=1 then 178 else if S.st=2 then 188 else 197) :
  Calls Tryz.prog f #[.pointer (some ⟨F,0,none⟩)] w fun e w'=>e = .returned (.tuple #[])∧Sys w' P R N T base n (S.turn base c) (opsOn ops S) (failsOn fails (c (base+S.slot)) S)∧IsFd w' F T (S.nxt n (c (base+S.slot)))∧Went (Foot P R F) w w':=by
 have eo:opsOn ops S=wrap64 (ops+1):=by unfold opsOn;rw[if_neg h0]
 rw[eo];by_cases h1:S.st=1
 ·have e2:S.turn base c=c:=by unfold Fd.turn;rw[if_neg (fun e=>by omega)]
  have e3:failsOn fails (c (base+S.slot)) S=fails:=by unfold failsOn;rw[if_neg (fun e=>by omega)]
  have en:S.nxt n (c (base+S.slot))=if c (base+S.slot)=S.key then S.over else if c (base+S.slot)=0 then S.to 2 else S.passed n:=by unfold Fd.nxt;rw[if_neg h0,if_pos h1]
  rw[e2,e3,en];rw[if_pos h1]at hf;subst hf;by_cases a:c (base+S.slot)=S.key
  ·rw[if_pos a];exact look_hit h k hs a
  ·rw[if_neg a];by_cases b:c (base+S.slot)=0
   ·rw[if_pos b];exact look_empty h k hs hk b
   ·rw[if_neg b];exact look_pass h k hs hl hln _ rfl b a
 ·rw[if_neg h1]at hf;by_cases h2:S.st=2
  ·rw[if_pos h2]at hf;subst hf;have en:S.nxt n (c (base+S.slot))=if c (base+S.slot)=0 then S.put else S.to 3:=by unfold Fd.nxt;rw[if_neg h0,if_neg h1,if_pos h2]
   rw[en];by_cases b:c (base+S.slot)=0
   ·have e2:S.turn base c=upd c (base+S.slot) S.key:=by unfold Fd.turn;rw[if_pos ⟨h2,b⟩]
    have e3:failsOn fails (c (base+S.slot)) S=fails:=by unfold failsOn;rw[if_neg (fun e=>e.2 b)]
    rw[if_pos b,e2,e3];exact claim_hit h k hs b
   ·have e2:S.turn base c=c:=by unfold Fd.turn;rw[if_neg (fun e=>b e.2)]
    have e3:failsOn fails (c (base+S.slot)) S=wrap64 (fails+1):=by unfold failsOn;rw[if_pos ⟨h2,b⟩]
    rw[if_neg b,e2,e3];exact claim_miss h k hs b
  ·rw[if_neg h2]at hf;subst hf;have e2:S.turn base c=c:=by unfold Fd.turn;rw[if_neg (fun e=>h2 e.1)]
   have e3:failsOn fails (c (base+S.slot)) S=fails:=by unfold failsOn;rw[if_neg (fun e=>h2 e.1)]
   have en:S.nxt n (c (base+S.slot))=if c (base+S.slot)=S.key then S.over else S.passed n:=by unfold Fd.nxt;rw[if_neg h0,if_neg h1,if_neg h2]
   rw[e2,e3,en];by_cases a:c (base+S.slot)=S.key
   ·rw[if_pos a];exact yield_hit h k hs a
   ·rw[if_neg a];exact yield_pass h k hs hl hln _ rfl a
theorem step_on (h:Sys w P R N T base n c ops fails) (k:IsFd w F T S) (hk:¬S.key=0) (h0:¬S.st=0) (hl:0<S.left) (hln:S.left≤n) (hs:S.slot<n) :
  Calls Tryz.prog 143 #[.pointer (some ⟨F,0,none⟩)] w fun e w'=>e = .returned (.bool (decide ((S.nxt n (c (base+S.slot))).st=0)))∧Sys w' P R N T base n (S.turn base c) (opsOn ops S) (failsOn fails (c (base+S.slot)) S)∧IsFd w' F T (S.nxt n (c (base+S.slot)))∧Went (Foot P R F) w w':=by
 have K1:=done_any k;rw[decide_eq_false h0]at K1;have c4:=k.f4;obtain⟨f,hf⟩:∃f:Nat,f=if S.st=1 then 178 else if S.st=2 then 188 else 197:=⟨_,rfl⟩
 have e4:nextV F S.st = .func (.func f) #[.pointer (some ⟨F,0,none⟩)] #[]:=by
  unfold nextV;rw[if_neg h0,hf];split
  ·rfl
  ·split <;> rfl
 rw[e4]at c4;clear e4;have K2:=next_any h k hk h0 hl hln hs f hf;have hf3:f=178∨f=188∨f=197:=by
  rw[hf];split
  ·exact .inl rfl
  ·split
   ·exact .inr (.inl rfl)
   ·exact .inr (.inr rfl)
 clear hf h0 hk;generalize S.nxt n (c (base+S.slot))=S' at K2;rcases hf3 with rfl|rfl|rfl
 ·go_enter Tryz.func143,Tryz.ntmps143
  go_wp2_with (first
   | (go_at_call 164;refine K1.mono ?_;clear K1;rintro e w1 ⟨rfl,rfl⟩)
   | (go_at_call 178;refine K2.mono ?_;clear K2;rintro e w2 ⟨rfl,h2,k2,b2⟩;have K1:=done_any k2))
  go_ret
  exact⟨rfl,h2,k2,b2⟩
 ·go_enter Tryz.func143,Tryz.ntmps143
  go_wp2_with (first
   | (go_at_call 164;refine K1.mono ?_;clear K1;rintro e w1 ⟨rfl,rfl⟩)
   | (go_at_call 188;refine K2.mono ?_;clear K2;rintro e w2 ⟨rfl,h2,k2,b2⟩;have K1:=done_any k2))
  go_ret
  exact⟨rfl,h2,k2,b2⟩
 ·go_enter Tryz.func143,Tryz.ntmps143
  go_wp2_with (first
   | (go_at_call 164;refine K1.mono ?_;clear K1;rintro e w1 ⟨rfl,rfl⟩)
   | (go_at_call 197;refine K2.mono ?_;clear K2;rintro e w2 ⟨rfl,h2,k2,b2⟩;have K1:=done_any k2))
  go_ret
  exact⟨rfl,h2,k2,b2⟩
theorem step_off (k:IsFd w F T S) (h0:S.st=0) :
  Calls Tryz.prog 143 #[.pointer (some ⟨F,0,none⟩)] w fun e w'=>e = .returned (.bool true)∧w'=w:=by
 have K1:=done_any k;rw[decide_eq_true h0]at K1;have K2:=K1;clear h0;go_enter Tryz.func143,Tryz.ntmps143
 go_wp2_with (first
  | (go_at_call 164;refine K1.mono ?_;clear K1;rintro e w1 ⟨rfl,rfl⟩)
  | (go_at_call 164;refine K2.mono ?_;clear K2;rintro e w1 ⟨rfl,rfl⟩))
 go_ret
 exact⟨rfl,rfl⟩
theorem made_any (k:IsFd w F T S) :
  Calls Tryz.prog 149 #[.pointer (some ⟨F,0,none⟩)] w fun e w'=>e = .returned (.bool S.made)∧w'=w:=by
 have c6:=k.f6;go_enter Tryz.func149,Tryz.ntmps149
 go_wp2
 go_ret
 exact⟨rfl,rfl⟩
def Fd.tells (S:Fd):Int×Int:=if S.found=true then ((S.slot:Int),0)else if S.st=0∧¬S.key=0 then (-1,60)else (-1,61)
theorem slot_any (k:IsFd w F T S) :
  Calls Tryz.prog 144 #[.pointer (some ⟨F,0,none⟩)] w fun e w'=>e = .returned (.tuple #[.int .i64 S.tells.1,.int .i64 S.tells.2])∧w'=w:=by
 have c5:=k.f5;have c2:=k.f2;have c1:=k.f1;have K1:=done_any k;unfold Fd.tells;by_cases hf:S.found=true
 ·rw[hf]at c5;rw[if_pos hf];clear hf;go_enter Tryz.func144,Tryz.ntmps144
  go_wp2_with fail
  go_ret2
  exact⟨rfl,rfl⟩
 ·have hf':S.found=false:=by simpa using hf
  rw[hf']at c5;rw[if_neg hf];clear hf hf';by_cases h0:S.st=0
  ·rw[decide_eq_true h0]at K1;by_cases hk:S.key=0
   ·rw[if_neg (fun e=>e.2 hk)];rw[hk]at c1;clear h0 hk;go_enter Tryz.func144,Tryz.ntmps144
    go_wp2_with (first
     | (go_at_call 164;refine K1.mono ?_;clear K1;rintro e w1 ⟨rfl,rfl⟩))
    go_ret2
    exact⟨rfl,rfl⟩
   ·rw[if_pos ⟨h0,hk⟩];have hd:(S.key != 0)=true:=by simpa using hk
    clear h0;go_enter Tryz.func144,Tryz.ntmps144
    go_wp2_with (first
     | (go_at_call 164;refine K1.mono ?_;clear K1;rintro e w1 ⟨rfl,rfl⟩))
    go_ret2
    exact⟨rfl,rfl⟩
  ·rw[decide_eq_false h0]at K1;rw[if_neg (fun e=>h0 e.1)];clear h0;go_enter Tryz.func144,Tryz.ntmps144
   go_wp2_with (first
    | (go_at_call 164;refine K1.mono ?_;clear K1;rintro e w1 ⟨rfl,rfl⟩))
   go_ret2
   exact⟨rfl,rfl⟩
end
end Go.Proofs.YtnnmdkaoiofabaaGreat.Tb
namespace Go.Proofs.YtnnmdkaoiofabaaGreat.Tb
open Go Go.RowKit
attribute [local go_sem] run_store_nil run_store_func
section
variable {w w':World}{P R N T base n F:Nat}{c:Nat→Int}{ops fails:Int}{S:Fd}
theorem tab_new (h:IsMem w P R N c ops fails) (base n:Nat) (hn:1≤n) (hr:base+n≤N) (hN:N≤262144) :
  Calls Tryz.prog 37 #[.pointer (some ⟨P,0,none⟩),.int .i64 (base:Int),.int .i64 (n:Int)] w fun e w'=>e = .returned (.tuple #[.pointer (some ⟨w.heap.size,0,none⟩),.int .i64 0])∧w'=w.alloc (.cells #[.pointer (some ⟨P,0,none⟩),.int .i64 (base:Int),.int .i64 (n:Int)] 86):=by
 have K:=len_any P R N c ops fails w h;have h1:¬(base:Int)<0:=by omega
 have h2:¬(n:Int)<1:=by omega
 have h3:¬(N:Int)-(base:Int)<(n:Int):=by omega
 go_enter Tryz.func37,Tryz.ntmps37
 go_wp2_with (first
  | (go_at_call 74;refine K.mono ?_;clear K;rintro e w1 ⟨rfl,rfl⟩))
 go_ret2
 exact⟨rfl,rfl⟩
theorem find_any (h:Sys w P R N T base n c ops fails) (k:Int) (h0:0<k) (h1:k≤18446744073709551615) :
  Calls Tryz.prog 141 #[.pointer (some ⟨T,20,none⟩),.int .u64 k] w fun e w'=>e = .returned (.pointer (some ⟨w.heap.size,0,none⟩))∧IsFd w' w.heap.size T (Fd.start n k)∧Below w.heap.size w w'∧w.heap.size<w'.heap.size:=by
 have t2:=h.t2;have hp:=h.pos;have hN:n≤262144:=by have:=h.room;have:=h.small;omega
 have K:=home_any k n w (by omega) h1 h.pos hN;have hk:(k != 0)=true:=by simp;omega
 have hk2:¬k=0:=by omega
 have fd:IsFd (w.alloc (.cells #[.pointer (some ⟨T,20,none⟩),.int .u64 k,.int .i64 ((home k n:Nat):Int),.int .i64 0,.nilFunc,.bool false,.bool false] 242)) w.heap.size T ⟨k,home k n,0,0,false,false⟩:=Go.Deep.blk_alloc_new _ _;have t2':(w.alloc (.cells #[.pointer (some ⟨T,20,none⟩),.int .u64 k,.int .i64 ((home k n:Nat):Int),.int .i64 0,.nilFunc,.bool false,.bool false] 242)).cell? ⟨T,22,none⟩=some (.int .i64 (n:Int)):=(h.new _).t2;have Ka:=ask_any fd n;have hS:Aside (Fd.start n k=⟨k,home k n,n,if n=0 then 0 else 1,false,false⟩):=by simp only[Aside,Fd.start];rw[if_neg (by omega)]
 generalize home k n=q at K Ka fd t2' hS;have bel:Below w.heap.size w (w.alloc (.cells #[.pointer (some ⟨T,20,none⟩),.int .u64 k,.int .i64 (q:Int),.int .i64 0,.nilFunc,.bool false,.bool false] 242)):=(Below.refl _ _).alloc (Nat.le_refl _) _;have siz:w.heap.size<(w.alloc (.cells #[.pointer (some ⟨T,20,none⟩),.int .u64 k,.int .i64 (q:Int),.int .i64 0,.nilFunc,.bool false,.bool false] 242)).heap.size:=by simp
 go_enter Tryz.func141,Tryz.ntmps141
 go_wp2_with (first
  | (go_at_call 162;refine K.mono ?_;clear K;rintro e w1 ⟨rfl,rfl⟩)
  | (go_at_call 163;refine Ka.mono ?_;clear Ka;rintro e w3 ⟨rfl,k3,o3⟩))
 go_ret
 rw[hS.out];exact⟨rfl,k3,bel.trans (Went.below o3 (by omega) fun i e=>by omega),Nat.lt_of_lt_of_le siz o3.size⟩
end
end Go.Proofs.YtnnmdkaoiofabaaGreat.Tb
namespace Go.Proofs.YtnnmdkaoiofabaaGreat.Tb
open Go Go.RowKit
section
variable {w w':World}{P R N T base n F:Nat}{c:Nat→Int}{ops fails:Int}{S:Fd}
def Told (n:Nat) (t:Nat→Int) (k:Int) (y:Int) (ok:Bool):Prop:=
 (ok=true∧∃s:Nat,s<n∧y=(s:Int)∧t s=k)∨(ok=false∧y = -1∧(¬k=0→∀s,s<n→¬t s=k))
theorem has_any (h:Sys w P R N T base n c ops fails) (t:Nat→Int) (ht:∀i,c (base+i)=t i) (k:Int) (h0:0≤k) (h1:k≤18446744073709551615) (g:Good n t) :
  Calls Tryz.prog 148 #[.pointer (some ⟨T,20,none⟩),.int .u64 k] w fun e w'=>∃(y:Int) (ok:Bool),e = .returned (.tuple #[.int .i64 y,.bool ok])∧Told n t k y ok∧(∃o',Sys w' P R N T base n c o' fails)∧Moved P R w w':=by
 have t2:=h.t2;have hp:=h.pos;have hN:n≤262144:=by have:=h.room;have:=h.small;omega
 have htA:Aside (∀i,c (base+i)=t i):=ht;clear ht;have K:=home_any k n w h0 h1 h.pos hN;rw[← place_zero k hp]at K;go_enter Tryz.func148,Tryz.ntmps148
 go_wp2_with (first
  | (go_at_call 162;refine K.mono ?_;clear K;rintro e w ⟨rfl,rfl⟩))
 go_loopg [6,17] n (fun g ss si wr=>∃(j:Nat) (o:Int),j+g=n∧ss = .int .i64 ((place n k j:Nat):Int)∧si = .int .i64 (j:Int)∧(∀i,i<j→¬k=0→¬t (place n k i)=k)∧Sys wr P R N T base n c o fails∧Moved P R w wr)
 case atStart=>exact⟨0,ops,by omega,rfl,rfl,(fun i hi=>by omega),h,Moved.refl _ _ _⟩
 case round =>
  obtain⟨j,o,hj,rfl,rfl,hno,H,M⟩:=hrel;have hJ:Aside (j+gk=n):=hj;have hNo:Aside (∀i,i<j→¬k=0→¬t (place n k i)=k):=hno;clear hj hno;by_cases hjn:j<n
  ·have hpl:=place_lt k j hp;have K:=load_any H (place n k j) hpl;rw[htA.out]at K;have hlt:(j:Int)<(n:Int):=by omega
   have hX:Aside (t (place n k j)=t (place n k j)):=rfl;have hB:Aside ((place n k j+1) % n=place n k (j+1)):=place_next k j;have hS:Aside (place n k j=place n k j):=rfl;by_cases hx:t (place n k j)=0
   ·rw[hx]at K;have hxA:Aside (t (place n k j)=0):=hx;clear hX hx;generalize hs:place n k j=s at K hpl;have hsA:Aside (place n k j=s):=hs;clear hs
    go_wp2_with (first
     | (go_at_call 169;refine K.mono ?_;clear K;rintro e w1 ⟨rfl,h1,b1⟩))
    go_ret2
    refine⟨_,_,rfl,.inr ⟨rfl,rfl,fun hk s hs e=>?_⟩,⟨_,h1⟩,M.trans b1⟩;obtain⟨i,hi,rfl⟩:=place_onto k hs;rcases Nat.lt_trichotomy i j with d|d|d
    ·exact hNo.out i d hk e
    ·rw[d,hxA.out]at e;exact hk e.symm
    ·exact(g k i hk hi e j d).1 hxA.out
   ·by_cases hk:t (place n k j)=k
    ·rw[hk]at K hx;have hkA:Aside (t (place n k j)=k):=hk;have hd:(k == 0)=false:=by simpa using hx
     have hd2:(k == k)=true:=by simp
     clear hX hk;generalize hs:place n k j=s at K hpl;have hsA:Aside (place n k j=s):=hs;clear hs
     go_wp2_with (first
      | (go_at_call 169;refine K.mono ?_;clear K;rintro e w1 ⟨rfl,h1,b1⟩))
     go_ret2
     exact⟨_,_,rfl,.inl ⟨rfl,s,hpl,rfl,by rw[← hsA.out];exact hkA.out⟩,⟨_,h1⟩,M.trans b1⟩
    ·have hkA:Aside (¬t (place n k j)=k):=hk;clear hX hS;generalize t (place n k j)=x at K hk hx;have hd:(x == 0)=false:=by simpa using hx
     have hd2:(x == k)=false:=by simpa using hk
     have hsA:Aside (place n k j=place n k j):=rfl;generalize hs:place n k j=s at K hpl hB;clear hsA;have hsA:Aside (place n k j=s):=hs;clear hs
     go_wp2_with (first
      | (go_at_call 169;refine K.mono ?_;clear K;rintro e w1 ⟨rfl,h1,b1⟩;have K2:=behind_any h1 s hpl;rw[hB.out]at K2)
      | (go_at_call 170;refine K2.mono ?_;clear K2;rintro e w1 ⟨rfl,rfl⟩))
     go_roundg (gk-1)
     case measure=>have:=hJ.out;omega
     case rel =>
      have hj:=hJ.out;refine⟨j+1,_,by omega,rfl,rfl,fun i hi hk0=>?_,h1,M.trans b1⟩;by_cases d:i=j
      ·rw[d];exact hkA.out
      ·exact hNo.out i (by omega) hk0
  ·obtain rfl:j=n:=by have:=hJ.out;omega
   go_wp2_with fail
   go_ret2
   refine⟨_,_,rfl,.inr ⟨rfl,rfl,fun hk s hs e=>?_⟩,⟨o,H⟩,M⟩;obtain⟨i,hi,rfl⟩:=place_onto k hs;exact hNo.out i hi hk e
def clr (base:Nat) (c:Nat→Int) (k:Nat):Nat→Int:=fun j=>if base≤j∧j<base+k then 0 else c j
theorem clr_zero (base:Nat) (c:Nat→Int):clr base c 0=c:=by
 funext j;unfold clr;rw[if_neg (by omega)]
theorem clr_succ (base:Nat) (c:Nat→Int) (k:Nat):upd (clr base c k) (base+k) 0=clr base c (k+1):=by
 funext j;unfold clr upd;by_cases e:j=base+k
 ·rw[if_pos e,if_pos (by omega)]
 ·rw[if_neg e];show (if base≤j∧j<base+k then 0 else c j)=_;by_cases d:base≤j∧j<base+k
  ·rw[if_pos d,if_pos (by omega)]
  ·rw[if_neg d,if_neg (by omega)]
theorem clear_any (h:Sys w P R N T base n c ops fails) :
  Calls Tryz.prog 139 #[.pointer (some ⟨T,20,none⟩)] w fun e w'=>e = .returned (.tuple #[])∧(∃o',Sys w' P R N T base n (clr base c n) o' fails)∧Moved P R w w':=by
 have t2:=h.t2;have hro:=h.room;have hsm:=h.small;go_enter Tryz.func139,Tryz.ntmps139
 go_wp2_with fail
 go_loopg [7] n (fun g si wr=>∃(k:Nat) (o:Int),k+g=n∧si = .int .i64 (k:Int)∧Sys wr P R N T base n (clr base c k) o fails∧Moved P R w wr)
 case atStart=>exact⟨0,ops,by omega,rfl,by rw[clr_zero];exact h,Moved.refl _ _ _⟩
 case round =>
  obtain⟨k,o,hk,rfl,H,M⟩:=hrel;have hK:Aside (k+gk=n):=hk;clear hk;by_cases hkn:k<n
  ·have K:=store_in P R N (clr base c k) o fails wr.drew (base+k) 0 (by omega) H.mem.drew;rw[clr_succ]at K;have hw:Aside (IntKind.i64.wrap ((base:Int)+(k:Int))=((base+k:Nat):Int)):=by simp only[Aside];rw[IntKind.wrap_i64];omega
   have hlt:(k:Int)<(n:Int):=by omega
   have s0:=H.t0;have s1:=H.t1
   go_wp2_with fail
   go_region_with (first
    | (go_at_call 160;rw[hw.out];refine K.mono ?_;clear K;rintro e w1 ⟨rfl,m1,b1⟩))
   all_goals go_wp2_with fail
   all_goals go_roundg (gk-1)
   all_goals first
    | (have:=hK.out;omega)
    | (have hk:=hK.out
       exact⟨k+1,_,by omega,rfl,H.moved m1 b1.undrew,M.trans b1.undrew⟩)
  ·obtain rfl:k=n:=by have:=hK.out;omega
   go_wp2_with fail
   go_end0
   exact⟨rfl,⟨o,H⟩,M⟩
end
end Go.Proofs.YtnnmdkaoiofabaaGreat.Tb
namespace Go.Proofs.YtnnmdkaoiofabaaGreat.Tb
open Go Go.RowKit
section
variable {w w':World}{P R N T base n F:Nat}{c:Nat→Int}{ops fails:Int}{S:Fd}
theorem step_any (h:Sys w P R N T base n c ops fails) (k:IsFd w F T S) (t:Nat→Int) (ht:∀i,c (base+i)=t i) (hi:FI n t S) :
  Calls Tryz.prog 143 #[.pointer (some ⟨F,0,none⟩)] w fun e w'=>e = .returned (.bool (decide ((S.nxt n (t S.slot)).st=0)))∧∃c',Sys w' P R N T base n c' (opsOn ops S) (failsOn fails (t S.slot) S)∧(∀i,c' (base+i)=S.after t i)∧(∀j,j<base∨base+n≤j→c' j=c j)∧IsFd w' F T (S.nxt n (t S.slot))∧Went (Foot P R F) w w':=by
 by_cases h0:S.st=0
 ·refine(step_off k h0).mono ?_;rintro e w ⟨rfl,rfl⟩;have e1:opsOn ops S=ops:=by unfold opsOn;rw[if_pos h0]
  have e2:failsOn fails (t S.slot) S=fails:=by unfold failsOn;rw[if_neg (fun e=>by omega)]
  rw[nxt_done _ h0,decide_eq_true h0,e1,e2,after_done t h0];exact⟨rfl,c,h,ht,fun _ _=>rfl,k,Went.refl _ _⟩
 ·obtain⟨hl,_⟩:=hi.going h0;have hs:=hi.slot_lt h.pos hl;refine(step_on h k hi.key h0 hl hi.left hs).mono ?_;rw[ht];rintro e w' ⟨rfl,h1,k1,b1⟩;refine⟨rfl,_,h1,fun i=>?_,fun j hj=>?_,k1,b1⟩
  ·unfold Fd.turn Fd.after;rw[ht];split
   ·unfold upd;by_cases e:i=S.slot
    ·rw[if_pos (by omega),if_pos e]
    ·rw[if_neg (by omega),if_neg e,ht]
   ·exact ht i
  ·unfold Fd.turn;split
   ·exact upd_other _ _ (by omega)
   ·rfl
end
def Solo (n:Nat) (t0 t:Nat→Int) (S:Fd):Prop:=
 (S.made=false∧t=t0)∨(S.made=true∧S.st=0∧S.slot<n∧t0 S.slot=0∧t=upd t0 S.slot S.key)
section
variable {n:Nat}{t0 t:Nat→Int}{S:Fd}
theorem Solo.start (n:Nat) (t0:Nat→Int) (k:Int):Solo n t0 t0 (Fd.start n k):=.inl ⟨rfl,rfl⟩
theorem Solo.step (h:Solo n t0 t S) (f:FI n t S) (hn:1≤n):Solo n t0 (S.after t) (S.nxt n (t S.slot)):=by
 rcases h with ⟨hm,rfl⟩|⟨hm,hs,hl,h0,ht⟩
 ·by_cases c:S.st=2∧t S.slot=0
  ·obtain⟨hl,_⟩:=f.going (by omega);have e:S.nxt n (t S.slot)=S.put:=by unfold Fd.nxt;rw[if_neg (by omega),if_neg (by omega),if_pos c.1,if_pos c.2]
   rw[e];refine .inr ⟨rfl,rfl,f.slot_lt hn hl,c.2,?_⟩;unfold Fd.after;rw[if_pos c];rfl
  ·refine .inl ⟨?_,by unfold Fd.after;rw[if_neg c]⟩;unfold Fd.nxt;split
   ·exact hm
   ·split
    ·split
     ·exact hm
     ·split <;> exact hm
    ·split
     ·split
      next h2 h0=>exact absurd ⟨h2,h0⟩ c
      next=>exact hm
     ·split <;> exact hm
 ·rw[nxt_done _ hs,after_done t hs];exact .inr ⟨hm,hs,hl,h0,ht⟩
theorem Solo.there (h:Solo n t0 t S) (f:FI n t S) (g:Good n t) (hs:S.st=0){s:Nat}(hsn:s<n) (e:t0 s=S.key):S.found=true∧S.made=false∧t=t0:=by
 rcases h with ⟨hm,rfl⟩|⟨hm,_,hl,h0,ht⟩
 ·refine⟨?_,hm,rfl⟩;cases hf:S.found with
  | true=>rfl
  | false=>exact absurd e (f.all hs hf s hsn).2
 ·exfalso;have hne:s≠S.slot:=fun d=>by rw[d,h0]at e;exact f.key e.symm
  have e1:t s=S.key:=by rw[ht,upd_other _ _ hne];exact e
  have e2:t S.slot=S.key:=by rw[ht];exact upd_same _ _ _
  exact hne (g.one f.key hsn hl e1 e2)
theorem Solo.room (h:Solo n t0 t S) (f:FI n t S) (hn:1≤n) (hs:S.st=0) (hno:∀s,s<n→¬t0 s=S.key) (hc:cnt t0 n<n):S.found=true∧S.made=true∧S.slot<n∧t0 S.slot=0∧t=upd t0 S.slot S.key:=by
 rcases h with ⟨hm,rfl⟩|⟨hm,_,hl,h0,ht⟩
 ·exfalso;cases hf:S.found with
  | true =>
   obtain⟨_,hl,e⟩:=f.found hf;exact hno _ (f.slot_lt hn hl) e
  | false =>
   have:=cnt_full (fun i hi=>(f.all hs hf i hi).1);omega
 ·exact⟨f.made hm,hm,hl,h0,ht⟩
end
end Go.Proofs.YtnnmdkaoiofabaaGreat.Tb
