/-
  An act of the cache without a program: what its steps make of it and of the cells; an act run to its end; acts in whatever turns. A cache and an act in memory; what the small calls of package cache return. What each step of an act does. What a get's reading of one cell does. What each call of package cache's face does: Step, Put, Get, Cells, New; an act run to its end. What New, Cells, Put, Get and Clear do.
-/
import Derived.Test.YtnnmdkaoiofabaaGreatBaseA
import Derived.Laws.Entries
import Derived.Laws.BitsLemmas
import Derived.Laws.BitsAllLaws
import Derived.Laws.Bits64
import Derived.Laws.Bits64b
import Derived.Laws.Closers25b
import Derived.Deep.RegionWith
import Derived.Deep.RegionHeld3
import Derived.Deep.CutRange
import Derived.Deep.LoopGhost
import Derived.Deep.QuietTactic
import Derived.BigQuiet
import Derived.BigRegion
namespace Go.Proofs.YtnnmdkaoiofabaaGreat.Ch
open Go Go.RowKit
def hi (x:Int):Int:=x / 4294967296
def lo (x:Int):Int:=x % 4294967296
def jn (u l:Int):Int:=u*4294967296+l
theorem hi_jn (u:Int){l:Int}(h0:0≤l) (h1:l<4294967296):hi (jn u l)=u:=by unfold hi jn;omega
theorem lo_jn (u:Int){l:Int}(h0:0≤l) (h1:l<4294967296):lo (jn u l)=l:=by unfold lo jn;omega
theorem jn_hi_lo (x:Int):jn (hi x) (lo x)=x:=by unfold jn hi lo;omega
theorem hi_lt {x:Int}(h0:0≤x) (h1:x≤18446744073709551615):0≤hi x∧hi x<4294967296:=by unfold hi;omega
theorem lo_lt (x:Int):0≤lo x∧lo x<4294967296:=by unfold lo;omega
theorem jn_lt {u l:Int}(h0:0≤u) (h1:u<4294967296) (h2:0≤l) (h3:l<4294967296):0≤jn u l∧jn u l≤18446744073709551615:=by unfold jn;omega
def bh (v:Int):Int:=if v=4294967295 then 1 else v+1
theorem bh_lt {v:Int}(h0:0≤v) (h1:v<4294967296):1≤bh v∧bh v<4294967296:=by unfold bh;split <;> omega
def half (key val:Int) (i:Nat):Int:=if i=0 then hi key else if i=1 then lo key else if i=2 then hi val else lo val
theorem half_lt {key val:Int}(h0:0≤key) (h1:key≤18446744073709551615) (h2:0≤val) (h3:val≤18446744073709551615) (i:Nat):0≤half key val i∧half key val i<4294967296:=by
 unfold half;split
 ·exact hi_lt h0 h1
 ·split
  ·exact lo_lt _
  ·split
   ·exact hi_lt h2 h3
   ·exact lo_lt _
def U64 (c:Nat→Int):Prop:=∀i,0≤c i∧c i≤18446744073709551615
structure Ac where
 put:Bool
 key:Int
 val:Int
 first:Nat
 cell:Nat
 h:Nat→Int
 was:Int
 ver:Int
 st:Nat
 found:Bool
 won:Bool
def Ac.ofPut (f:Nat) (key val:Int):Ac:=⟨true,key,val,f,0,half key val,0,0,1,false,false⟩
def Ac.ofGet (f:Nat) (key:Int):Ac:=⟨false,key,0,f,0,half key 0,0,0,4,false,false⟩
def Ac.nxt (c:Nat→Int) (S:Ac):Ac:=
 if S.st=0 then S
 else if S.st=1 then ⟨S.put,S.key,S.val,S.first,S.cell,S.h,c S.first,bh (hi (c S.first)),2,S.found,S.won⟩
 else if S.st=2 then (if c S.first=S.was then ⟨S.put,S.key,S.val,S.first,1,S.h,S.was,S.ver,3,S.found,true⟩else ⟨S.put,S.key,S.val,S.first,S.cell,S.h,S.was,S.ver,0,S.found,S.won⟩)
 else if S.st=3 then ⟨S.put,S.key,S.val,S.first,S.cell+1,S.h,S.was,S.ver,if S.cell+1=4 then 0 else 3,S.found,S.won⟩
 else if S.st=4 then (if hi (c S.first)=0∨¬lo (c S.first)=S.h 0 then ⟨S.put,S.key,S.val,S.first,S.cell,S.h,S.was,S.ver,0,S.found,S.won⟩else ⟨S.put,S.key,S.val,S.first,1,S.h,S.was,hi (c S.first),5,S.found,S.won⟩)
 else (if ¬hi (c (S.first+S.cell))=S.ver∨S.cell<2∧¬lo (c (S.first+S.cell))=S.h S.cell then ⟨S.put,S.key,S.val,S.first,S.cell,S.h,S.was,S.ver,0,S.found,S.won⟩
  else ⟨S.put,S.key,S.val,S.first,S.cell+1,upd S.h S.cell (lo (c (S.first+S.cell))),S.was,S.ver,if S.cell+1=4 then 0 else 5,if S.cell+1=4 then true else S.found,S.won⟩)
def Ac.after (c:Nat→Int) (S:Ac):Nat→Int:=
 if S.st=2∧c S.first=S.was then upd c S.first (jn S.ver (S.h 0))
 else if S.st=3 then upd c (S.first+S.cell) (jn S.ver (S.h S.cell))
 else c
def Ac.told (S:Ac):Int:=if S.found=true then jn (S.h 2) (S.h 3)else 0
def Ac.mu (S:Ac):Nat:=if S.st=0 then 0 else if S.st=1 then 5 else if S.st=2 then 4 else if S.st=4 then 4 else 4-S.cell
structure Fit (N:Nat) (S:Ac):Prop where
 room:S.first+4≤N
 cell:S.st=3∨S.st=5→1≤S.cell∧S.cell≤3
 h:∀i,0≤S.h i∧S.h i<4294967296
 ver:0≤S.ver∧S.ver<4294967296
 st:S.st≤5
section
variable {N:Nat}{S:Ac}{c:Nat→Int}
theorem nxt0 (h:S.st=0):S.nxt c=S:=by unfold Ac.nxt;rw[if_pos h]
theorem nxt1 (h:S.st=1):S.nxt c=⟨S.put,S.key,S.val,S.first,S.cell,S.h,c S.first,bh (hi (c S.first)),2,S.found,S.won⟩:=by unfold Ac.nxt;rw[if_neg (by omega),if_pos h]
theorem nxt2 (h:S.st=2):S.nxt c=if c S.first=S.was then ⟨S.put,S.key,S.val,S.first,1,S.h,S.was,S.ver,3,S.found,true⟩else ⟨S.put,S.key,S.val,S.first,S.cell,S.h,S.was,S.ver,0,S.found,S.won⟩:=by
 unfold Ac.nxt;rw[if_neg (by omega),if_neg (by omega),if_pos h]
theorem nxt3 (h:S.st=3):S.nxt c=⟨S.put,S.key,S.val,S.first,S.cell+1,S.h,S.was,S.ver,if S.cell+1=4 then 0 else 3,S.found,S.won⟩:=by
 unfold Ac.nxt;rw[if_neg (by omega),if_neg (by omega),if_neg (by omega),if_pos h]
theorem nxt4 (h:S.st=4):S.nxt c=if hi (c S.first)=0∨¬lo (c S.first)=S.h 0 then ⟨S.put,S.key,S.val,S.first,S.cell,S.h,S.was,S.ver,0,S.found,S.won⟩else ⟨S.put,S.key,S.val,S.first,1,S.h,S.was,hi (c S.first),5,S.found,S.won⟩:=by
 unfold Ac.nxt;rw[if_neg (by omega),if_neg (by omega),if_neg (by omega),if_neg (by omega),if_pos h]
theorem nxt5 (h:S.st=5):S.nxt c=if ¬hi (c (S.first+S.cell))=S.ver∨S.cell<2∧¬lo (c (S.first+S.cell))=S.h S.cell then ⟨S.put,S.key,S.val,S.first,S.cell,S.h,S.was,S.ver,0,S.found,S.won⟩
  else ⟨S.put,S.key,S.val,S.first,S.cell+1,upd S.h S.cell (lo (c (S.first+S.cell))),S.was,S.ver,if S.cell+1=4 then 0 else 5,if S.cell+1=4 then true else S.found,S.won⟩:=by
 unfold Ac.nxt;rw[if_neg (by omega),if_neg (by omega),if_neg (by omega),if_neg (by omega),if_neg (by omega)]
theorem after2 (h:S.st=2) (e:c S.first=S.was):S.after c=upd c S.first (jn S.ver (S.h 0)):=by unfold Ac.after;rw[if_pos ⟨h,e⟩]
theorem after3 (h:S.st=3):S.after c=upd c (S.first+S.cell) (jn S.ver (S.h S.cell)):=by unfold Ac.after;rw[if_neg (fun e=>by omega),if_pos h]
theorem after_same (h:S.st=2→¬c S.first=S.was) (h3:¬S.st=3):S.after c=c:=by unfold Ac.after;rw[if_neg (fun e=>h e.1 e.2),if_neg h3]
theorem six (h:S.st≤5):S.st=0∨S.st=1∨S.st=2∨S.st=3∨S.st=4∨S.st=5:=by omega
theorem upd_same (c:Nat→Int) (i:Nat) (v:Int):upd c i v i=v:=by simp[upd]
theorem upd_other (c:Nat→Int){i j:Nat}(v:Int) (h:j≠i):upd c i v j=c j:=by simp[upd,h]
theorem Fit.step (h:Fit N S) (hc:U64 c):Fit N (S.nxt c):=by
 have hv:=hi_lt (hc S.first).1 (hc S.first).2;rcases six h.st with e|e|e|e|e|e
 ·rw[nxt0 e];exact h
 ·rw[nxt1 e];exact⟨h.room,fun k=>by simp at k,h.h,⟨by have:=bh_lt hv.1 hv.2;show 0≤bh _;omega,(bh_lt hv.1 hv.2).2⟩,by show 2≤5;omega⟩
 ·rw[nxt2 e];split
  ·exact⟨h.room,fun _=>⟨Nat.le_refl 1,by show 1≤3;omega⟩,h.h,h.ver,by show 3≤5;omega⟩
  ·exact⟨h.room,fun k=>by simp at k,h.h,h.ver,by show 0≤5;omega⟩
 ·rw[nxt3 e];have hcl:=h.cell (.inl e);by_cases d:S.cell+1=4
  ·rw[if_pos d];exact⟨h.room,fun k=>by simp at k,h.h,h.ver,by show 0≤5;omega⟩
  ·rw[if_neg d];exact⟨h.room,fun _=>⟨by show 1≤S.cell+1;omega,by show S.cell+1≤3;omega⟩,h.h,h.ver,by show 3≤5;omega⟩
 ·rw[nxt4 e];split
  ·exact⟨h.room,fun k=>by simp at k,h.h,h.ver,by show 0≤5;omega⟩
  ·exact⟨h.room,fun _=>⟨Nat.le_refl 1,by show 1≤3;omega⟩,h.h,hv,by show 5≤5;omega⟩
 ·rw[nxt5 e];have hcl:=h.cell (.inr e);split
  ·exact⟨h.room,fun k=>by simp at k,h.h,h.ver,by show 0≤5;omega⟩
  ·have hh:∀i,0≤upd S.h S.cell (lo (c (S.first+S.cell))) i∧upd S.h S.cell (lo (c (S.first+S.cell))) i<4294967296:=fun i=>by
    by_cases d:i=S.cell
    ·rw[d,upd_same];exact lo_lt _
    ·rw[upd_other _ _ d];exact h.h i
   by_cases d:S.cell+1=4
   ·rw[if_pos d];exact⟨h.room,fun k=>by simp at k,hh,h.ver,by show 0≤5;omega⟩
   ·rw[if_neg d];exact⟨h.room,fun _=>⟨by show 1≤S.cell+1;omega,by show S.cell+1≤3;omega⟩,hh,h.ver,by show 5≤5;omega⟩
theorem U64.step (hc:U64 c) (h:Fit N S):U64 (S.after c):=by
 have key:∀(j i:Nat),U64 (upd c j (jn S.ver (S.h i))):=fun j i k=>by
  by_cases d:k=j
  ·rw[d,upd_same];exact jn_lt h.ver.1 h.ver.2 (h.h i).1 (h.h i).2
  ·rw[upd_other _ _ d];exact hc k
 unfold Ac.after;split
 ·exact key _ _
 ·split
  ·exact key _ _
  ·exact hc
theorem mu_le (S:Ac):S.mu≤5:=by
 unfold Ac.mu;split
 ·omega
 ·split
  ·omega
  ·split
   ·omega
   ·split <;> omega
theorem Fit.mu_step (h:Fit N S) (h0:¬S.st=0):(S.nxt c).mu+1≤S.mu:=by
 rcases six h.st with e|e|e|e|e|e
 ·exact absurd e h0
 ·rw[nxt1 e];simp[Ac.mu,e]
 ·rw[nxt2 e];split <;> simp[Ac.mu,e]
 ·rw[nxt3 e];have:=h.cell (.inl e);by_cases d:S.cell+1=4
  ·rw[if_pos d];simp[Ac.mu,e];omega
  ·rw[if_neg d];simp[Ac.mu,e];omega
 ·rw[nxt4 e];split <;> simp[Ac.mu,e]
 ·rw[nxt5 e];have:=h.cell (.inr e);split
  ·simp[Ac.mu,e];omega
  ·by_cases d:S.cell+1=4
   ·rw[if_pos d];simp[Ac.mu,e];omega
   ·rw[if_neg d];simp[Ac.mu,e];omega
end
theorem Fit.ofPut {N f:Nat}{key val:Int}(hf:f+4≤N) (h0:0≤key) (h1:key≤18446744073709551615) (h2:0≤val) (h3:val≤18446744073709551615):Fit N (Ac.ofPut f key val):=
 ⟨hf,fun k=>by simp[Ac.ofPut]at k,half_lt h0 h1 h2 h3,⟨Int.le_refl _,by show (0:Int)<_;omega⟩,by show 1≤5;omega⟩
theorem Fit.ofGet {N f:Nat}{key:Int}(hf:f+4≤N) (h0:0≤key) (h1:key≤18446744073709551615):Fit N (Ac.ofGet f key):=
 ⟨hf,fun k=>by simp[Ac.ofGet]at k,half_lt h0 h1 (Int.le_refl _) (by omega),⟨Int.le_refl _,by show (0:Int)<_;omega⟩,by show 4≤5;omega⟩
def runs : Nat→(Nat→Int)→Ac→(Nat→Int)×Ac
 | 0,c,S=>(c,S)
 | k+1,c,S=>if S.st=0 then (c,S)else runs k (S.after c) (S.nxt c)
theorem runs_done (k:Nat) (c:Nat→Int){S:Ac}(h:S.st=0):runs k c S=(c,S):=by
 cases k with
 | zero=>rfl
 | succ k=>show (if S.st=0 then (c,S)else _)=_;rw[if_pos h]
theorem runs_step (k:Nat) (c:Nat→Int){S:Ac}(h:¬S.st=0):runs (k+1) c S=runs k (S.after c) (S.nxt c):=by
 show (if S.st=0 then (c,S)else _)=_;rw[if_neg h]
theorem runs_fit {N:Nat}(k:Nat):∀(c:Nat→Int) (S:Ac),U64 c→Fit N S→U64 (runs k c S).1∧Fit N (runs k c S).2:=by
 induction k with
 | zero=>exact fun c S h1 h2=>⟨h1,h2⟩
 | succ k ih =>
  intro c S h1 h2;by_cases h:S.st=0
  ·rw[runs_done _ _ h];exact⟨h1,h2⟩
  ·rw[runs_step _ _ h];exact ih _ _ (h1.step h2) (h2.step h1)
def putAt (c:Nat→Int) (f:Nat) (key val:Int):Nat→Int:=
 upd (upd (upd (upd c f (jn (bh (hi (c f))) (hi key))) (f+1) (jn (bh (hi (c f))) (lo key))) (f+2) (jn (bh (hi (c f))) (hi val))) (f+3) (jn (bh (hi (c f))) (lo val))
theorem runs_put (c:Nat→Int) (f:Nat) (key val:Int):(runs 16 c (Ac.ofPut f key val)).1=putAt c f key val∧(runs 16 c (Ac.ofPut f key val)).2.found=false∧(runs 16 c (Ac.ofPut f key val)).2.st=0:=by
 rw[runs_step _ _ (by simp[Ac.ofPut]),runs_step,runs_step,runs_step,runs_step,runs_done];all_goals simp[Ac.nxt,Ac.after,Ac.ofPut,half,putAt]
def Hits (c:Nat→Int) (f:Nat) (key:Int):Prop:=
 ¬hi (c f)=0∧lo (c f)=hi key∧hi (c (f+1))=hi (c f)∧lo (c (f+1))=lo key∧hi (c (f+2))=hi (c f)∧hi (c (f+3))=hi (c f)
theorem runs_get (c:Nat→Int) (f:Nat) (key:Int):(runs 16 c (Ac.ofGet f key)).1=c∧(runs 16 c (Ac.ofGet f key)).2.st=0 ∧
  ((runs 16 c (Ac.ofGet f key)).2.found=true↔Hits c f key)∧((runs 16 c (Ac.ofGet f key)).2.found=true→(runs 16 c (Ac.ofGet f key)).2.told=jn (lo (c (f+2))) (lo (c (f+3)))):=by
 have e0:(Ac.ofGet f key).after c=c:=by simp[Ac.ofGet,Ac.after]
 rw[runs_step _ _ (by simp[Ac.ofGet]),e0];by_cases h0:hi (c f)=0∨¬lo (c f)=hi key
 ·have e:(Ac.ofGet f key).nxt c=⟨false,key,0,f,0,half key 0,0,0,0,false,false⟩:=by rw[nxt4 rfl];simp only[Ac.ofGet,half,if_true];rw[if_pos h0]
  rw[e,runs_done _ _ rfl];refine⟨rfl,rfl,⟨fun h=>(by cases h),fun h=>?_⟩,fun h=>(by cases h)⟩;rcases h0 with h0|h0
  ·exact absurd h0 h.1
  ·exact absurd h.2.1 h0
 ·have e:(Ac.ofGet f key).nxt c=⟨false,key,0,f,1,half key 0,0,hi (c f),5,false,false⟩:=by rw[nxt4 rfl];simp only[Ac.ofGet,half,if_true];rw[if_neg h0]
  rw[e,runs_step _ _ (by simp)];have q:∀S:Ac,S.st=5→S.after c=c:=fun S h=>after_same (fun e=>by omega) (by omega)
  rw[q _ rfl];by_cases h1:¬hi (c (f+1))=hi (c f)∨1<2∧¬lo (c (f+1))=lo key
  ·rw[nxt5 rfl];simp only[half,if_true,if_false,Nat.one_ne_zero];rw[if_pos h1,runs_done _ _ rfl];refine⟨rfl,rfl,⟨fun h=>(by cases h),fun h=>?_⟩,fun h=>(by cases h)⟩;rcases h1 with h1|h1
   ·exact absurd h.2.2.1 h1
   ·exact absurd h.2.2.2.1 h1.2
  ·rw[nxt5 rfl];simp only[half,if_true,if_false,Nat.one_ne_zero];rw[if_neg h1];simp only[Nat.reduceAdd,Nat.reduceEqDiff,if_false];rw[runs_step _ _ (by simp),q _ rfl,nxt5 rfl];by_cases h2:hi (c (f+2))=hi (c f)
   ·rw[if_neg (by simp[h2])];simp only[Nat.reduceAdd,Nat.reduceEqDiff,if_false];rw[runs_step _ _ (by simp),q _ rfl,nxt5 rfl];by_cases h3:hi (c (f+3))=hi (c f)
    ·rw[if_neg (by simp[h3])];simp only[Nat.reduceAdd,if_true];rw[runs_done _ _ rfl];have h0':¬hi (c f)=0∧lo (c f)=hi key:=⟨fun e=>h0 (.inl e),Classical.byContradiction fun e=>h0 (.inr e)⟩
     have h1':hi (c (f+1))=hi (c f)∧lo (c (f+1))=lo key:=⟨Classical.byContradiction fun e=>h1 (.inl e),Classical.byContradiction fun e=>h1 (.inr ⟨by omega,e⟩)⟩
     exact⟨rfl,rfl,⟨fun _=>⟨h0'.1,h0'.2,h1'.1,h1'.2,h2,h3⟩,fun _=>rfl⟩,fun _=>by simp[Ac.told,upd]⟩
    ·rw[if_pos (.inl h3),runs_done _ _ rfl];exact⟨rfl,rfl,⟨fun h=>(by cases h),fun h=>absurd h.2.2.2.2.2 h3⟩,fun h=>(by cases h)⟩
   ·rw[if_pos (.inl h2),runs_done _ _ rfl];exact⟨rfl,rfl,⟨fun h=>(by cases h),fun h=>absurd h.2.2.2.2.1 h2⟩,fun h=>(by cases h)⟩
section
variable {c:Nat→Int}{f g:Nat}{key key' val:Int}
theorem putAt_other {i:Nat}(h:i<f∨f+4≤i):putAt c f key val i=c i:=by
 unfold putAt;rw[upd_other _ _ (by omega),upd_other _ _ (by omega),upd_other _ _ (by omega),upd_other _ _ (by omega)]
theorem putAt0 : putAt c f key val f=jn (bh (hi (c f))) (hi key):=by
 unfold putAt;rw[upd_other _ _ (by omega),upd_other _ _ (by omega),upd_other _ _ (by omega),upd_same]
theorem putAt1 : putAt c f key val (f+1)=jn (bh (hi (c f))) (lo key):=by
 unfold putAt;rw[upd_other _ _ (by omega),upd_other _ _ (by omega),upd_same]
theorem putAt2 : putAt c f key val (f+2)=jn (bh (hi (c f))) (hi val):=by
 unfold putAt;rw[upd_other _ _ (by omega),upd_same]
theorem putAt3 : putAt c f key val (f+3)=jn (bh (hi (c f))) (lo val):=by
 unfold putAt;rw[upd_same]
theorem put_hits (hc:U64 c) (h0:0≤key) (h1:key≤18446744073709551615) (h2:0≤val) (h3:val≤18446744073709551615) :
  (Hits (putAt c f key val) f key'↔key'=key)∧jn (lo (putAt c f key val (f+2))) (lo (putAt c f key val (f+3)))=val:=by
 have a:=hi_lt h0 h1;have b:=lo_lt key;have d:=hi_lt h2 h3;have e:=lo_lt val;have v:=hi_lt (hc f).1 (hc f).2;have w:=bh_lt v.1 v.2;unfold Hits;rw[putAt0,putAt1,putAt2,putAt3,hi_jn _ a.1 a.2,hi_jn _ b.1 b.2,hi_jn _ d.1 d.2,hi_jn _ e.1 e.2,lo_jn _ a.1 a.2,lo_jn _ b.1 b.2,lo_jn _ d.1 d.2,lo_jn _ e.1 e.2];refine⟨⟨fun h=>?_,fun h=>?_⟩,jn_hi_lo val⟩
 ·rw[← jn_hi_lo key',← jn_hi_lo key,h.2.1,h.2.2.2.1]
 ·rw[h];exact⟨by omega,rfl,rfl,rfl,rfl,rfl⟩
theorem hits_congr {c':Nat→Int}(h:∀i,f≤i→i<f+4→c' i=c i):Hits c' f key↔Hits c f key:=by
 unfold Hits;rw[h f (by omega) (by omega),h (f+1) (by omega) (by omega),h (f+2) (by omega) (by omega),h (f+3) (by omega) (by omega)]
end
end Go.Proofs.YtnnmdkaoiofabaaGreat.Ch
namespace Go.Proofs.YtnnmdkaoiofabaaGreat.Ch
open Go Go.RowKit
theorem split_any (x:Int) (w:World) (h0:0≤x) (h1:x≤18446744073709551615) :
  Calls Tryz.prog 171 #[.int .u64 x] w fun e w'=>e = .returned (.tuple #[.int .u32 (hi x),.int .u32 (lo x)])∧w'=w:=by
 go_enter Tryz.func171,Tryz.ntmps171
 go_wp2
 go_ret2
 exact⟨rfl,rfl⟩
theorem or_form (u l:Int) (h0:0≤u) (h1:u<4294967296) (h2:0≤l) (h3:l<4294967296):bits .or .u64 (u*4294967296) l=jn u l:=by
 obtain⟨a,rfl⟩:=Int.eq_ofNat_of_zero_le h0;obtain⟨b,rfl⟩:=Int.eq_ofNat_of_zero_le h2;have e:=bits_or_u64_nat (a*4294967296) b (by omega) (by omega);have o:a*4294967296 ||| b=a*4294967296+b:=by
  have:=Nat.two_pow_add_eq_or_of_lt (i:=32) (b:=b) (by omega) a;rw[show (2:Nat)^32=4294967296 from rfl,Nat.mul_comm]at this;exact this.symm
 rw[o]at e;simp only[Int.natCast_mul,Int.natCast_add,Int.cast_ofNat_Int]at e;exact e
theorem join_any (u l:Int) (w:World) (h0:0≤u) (h1:u<4294967296) (h2:0≤l) (h3:l<4294967296) :
  Calls Tryz.prog 168 #[.int .u32 u,.int .u32 l] w fun e w'=>e = .returned (.int .u64 (jn u l))∧w'=w:=by
 have hj:=or_form u l h0 h1 h2 h3;rw[← hj];clear hj;go_enter Tryz.func168,Tryz.ntmps168
 go_wp2
 go_ret
 exact⟨rfl,rfl⟩
theorem behind_any (v:Int) (w:World) (h0:0≤v) (h1:v<4294967296) :
  Calls Tryz.prog 181 #[.int .u32 v] w fun e w'=>e = .returned (.int .u32 (bh v))∧w'=w:=by
 by_cases hv:v=4294967295
 ·have e:bh v=1:=by unfold bh;rw[if_pos hv]
  rw[e];have h:(v+1) % 4294967296<1:=by omega
  clear e;go_enter Tryz.func181,Tryz.ntmps181
  go_wp2
  go_ret
  exact⟨rfl,rfl⟩
 ·have e:bh v=v+1:=by unfold bh;rw[if_neg hv]
  rw[e];have h:(v+1) % 4294967296=v+1:=by omega
  have h2:¬v+1<1:=by omega
  clear e;go_enter Tryz.func181,Tryz.ntmps181
  go_wp2
  go_ret
  exact⟨rfl,rfl⟩
structure Sys (w:World) (P R N T base n:Nat) (c:Nat→Int) (ops fails:Int):Prop where
 mem:IsMem w P R N c ops fails
 tab:∃cs,w.heap[T]? = some (.cells cs 92 (0,0))∧cs[24]? = some (.pointer (some ⟨P,0,none⟩))∧cs[25]? = some (.int .i64 (base:Int))∧cs[26]? = some (.int .i64 (n:Int))
 room:base+4*n≤N
 pos:1≤n
 small:N≤262144
 fit:U64 c
def nextF (st:Nat):Nat:=if st=1 then 172 else if st=2 then 182 else if st=3 then 192 else if st=4 then 166 else 180
def nextV (A st:Nat):Value:=if st=0 then .nilFunc else .func (.func (nextF st)) #[.pointer (some ⟨A,0,none⟩)] #[]
def IsAct (w:World) (A P:Nat) (S:Ac):Prop:=
 w.heap[A]? = some (.cells #[.pointer (some ⟨P,0,none⟩),.int .i64 (S.first:Int),.int .i64 (S.cell:Int),.int .u32 (S.h 0),.int .u32 (S.h 1),.int .u32 (S.h 2),.int .u32 (S.h 3),.int .u64 S.was,.int .u32 S.ver,nextV A S.st,.bool S.found] 245 (0,0))
namespace Sys
variable {w w':World}{P R N T base n:Nat}{c c':Nat→Int}{ops fails o' f':Int}
theorem ltT (h:Sys w P R N T base n c ops fails):T<w.heap.size:=by obtain⟨cs,hb,_⟩:=h.tab;exact(Array.getElem?_eq_some_iff.1 hb).1
theorem neP (h:Sys w P R N T base n c ops fails):T≠P:=fun e=>by obtain⟨cs,a,_⟩:=h.tab;rw[e,h.mem.head]at a;simp at a
theorem neR (h:Sys w P R N T base n c ops fails):T≠R:=fun e=>by
 obtain⟨cs,hb,_⟩:=h.mem.row;obtain⟨cs',a,_⟩:=h.tab;rw[e,hb]at a;simp at a
theorem kept (h:Sys w P R N T base n c ops fails) (k:∀b,b=P∨b=R∨b=T→w'.heap[b]? = w.heap[b]?):Sys w' P R N T base n c ops fails:=
 ⟨h.mem.of_blocks (k _ (.inl rfl)) (k _ (.inr (.inl rfl))),let ⟨cs,hb,r⟩:=h.tab;⟨cs,(k _ (.inr (.inr rfl))).trans hb,r⟩,h.room,h.pos,h.small,h.fit⟩
theorem moved (h:Sys w P R N T base n c ops fails) (m:IsMem w' P R N c' o' f') (k:Moved P R w w') (u:U64 c'):Sys w' P R N T base n c' o' f':=
 ⟨m,let ⟨cs,hb,r⟩:=h.tab;⟨cs,(k.block _ h.ltT h.neP h.neR).trans hb,r⟩,h.room,h.pos,h.small,u⟩
theorem drew (h:Sys w P R N T base n c ops fails):Sys w.drew P R N T base n c ops fails:=⟨h.mem.drew,h.tab,h.room,h.pos,h.small,h.fit⟩
theorem t0 (h:Sys w P R N T base n c ops fails):w.cell? ⟨T,24,none⟩=some (.pointer (some ⟨P,0,none⟩)):=by obtain⟨cs,hb,h0,h1,h2⟩:=h.tab;simp[World.cell?,hb,h0]
theorem t1 (h:Sys w P R N T base n c ops fails):w.cell? ⟨T,25,none⟩=some (.int .i64 (base:Int)):=by obtain⟨cs,hb,h0,h1,h2⟩:=h.tab;simp[World.cell?,hb,h1]
theorem t2 (h:Sys w P R N T base n c ops fails):w.cell? ⟨T,26,none⟩=some (.int .i64 (n:Int)):=by obtain⟨cs,hb,h0,h1,h2⟩:=h.tab;simp[World.cell?,hb,h2]
theorem new (h:Sys w P R N T base n c ops fails) (o:Obj):Sys (w.alloc o) P R N T base n c ops fails:=
 h.kept fun _ hb=>Below.heap_alloc _ _ _ (hb.elim (fun e=>e ▸ h.mem.ltP) (fun e=>e.elim (fun e=>e ▸ h.mem.ltR) (fun e=>e ▸ h.ltT)))
theorem below (h:Sys w P R N T base n c ops fails) (k:Below w.heap.size w w'):Sys w' P R N T base n c ops fails:=
 h.kept fun _ hb=>k.block _ (hb.elim (fun e=>e ▸ h.mem.ltP) (fun e=>e.elim (fun e=>e ▸ h.mem.ltR) (fun e=>e ▸ h.ltT)))
end Sys
namespace IsAct
variable {w w':World}{A P:Nat}{S:Ac}
theorem lt (h:IsAct w A P S):A<w.heap.size:=(Array.getElem?_eq_some_iff.1 h).1
theorem f0 (h:IsAct w A P S):w.cell? ⟨A,0,none⟩=some (.pointer (some ⟨P,0,none⟩)):=by unfold IsAct at h;simp[World.cell?,h]
theorem f1 (h:IsAct w A P S):w.cell? ⟨A,1,none⟩=some (.int .i64 (S.first:Int)):=by unfold IsAct at h;simp[World.cell?,h]
theorem f2 (h:IsAct w A P S):w.cell? ⟨A,2,none⟩=some (.int .i64 (S.cell:Int)):=by unfold IsAct at h;simp[World.cell?,h]
theorem f3 (h:IsAct w A P S):w.cell? ⟨A,3,none⟩=some (.int .u32 (S.h 0)):=by unfold IsAct at h;simp[World.cell?,h]
theorem f4 (h:IsAct w A P S):w.cell? ⟨A,4,none⟩=some (.int .u32 (S.h 1)):=by unfold IsAct at h;simp[World.cell?,h]
theorem f5 (h:IsAct w A P S):w.cell? ⟨A,5,none⟩=some (.int .u32 (S.h 2)):=by unfold IsAct at h;simp[World.cell?,h]
theorem f6 (h:IsAct w A P S):w.cell? ⟨A,6,none⟩=some (.int .u32 (S.h 3)):=by unfold IsAct at h;simp[World.cell?,h]
theorem fh (h:IsAct w A P S){i:Nat}(hi:i<4):w.cell? ⟨A,3+i,none⟩=some (.int .u32 (S.h i)):=by
 obtain rfl|rfl|rfl|rfl:i=0∨i=1∨i=2∨i=3:=by omega
 ·exact h.f3
 ·exact h.f4
 ·exact h.f5
 ·exact h.f6
theorem f7 (h:IsAct w A P S):w.cell? ⟨A,7,none⟩=some (.int .u64 S.was):=by unfold IsAct at h;simp[World.cell?,h]
theorem f8 (h:IsAct w A P S):w.cell? ⟨A,8,none⟩=some (.int .u32 S.ver):=by unfold IsAct at h;simp[World.cell?,h]
theorem f9 (h:IsAct w A P S):w.cell? ⟨A,9,none⟩=some (nextV A S.st):=by unfold IsAct at h;simp[World.cell?,h]
theorem f10 (h:IsAct w A P S):w.cell? ⟨A,10,none⟩=some (.bool S.found):=by unfold IsAct at h;simp[World.cell?,h]
theorem free (h:IsAct w A P S) (i:Nat):w.frozen? ⟨A,i,none⟩=false:=by unfold IsAct at h;simp[World.frozen?,h]
theorem kept (h:IsAct w A P S) (k:w'.heap[A]? = w.heap[A]?):IsAct w' A P S:=k.trans h
theorem drew (h:IsAct w A P S):IsAct w.drew A P S:=h
theorem set2 (h:IsAct w A P S) (s:Nat):IsAct (w.setCell ⟨A,2,none⟩ (.int .i64 (s:Int))) A P ⟨S.put,S.key,S.val,S.first,s,S.h,S.was,S.ver,S.st,S.found,S.won⟩:=by unfold IsAct at *;simp[World.setCell,Array.getElem?_modify,h]
theorem seth (h:IsAct w A P S){i:Nat}(hi:i<4) (x:Int):IsAct (w.setCell ⟨A,3+i,none⟩ (.int .u32 x)) A P ⟨S.put,S.key,S.val,S.first,S.cell,upd S.h i x,S.was,S.ver,S.st,S.found,S.won⟩:=by
 obtain rfl|rfl|rfl|rfl:i=0∨i=1∨i=2∨i=3:=by omega
 all_goals (unfold IsAct at *;simp[World.setCell,Array.getElem?_modify,h,upd])
theorem set7 (h:IsAct w A P S) (x:Int):IsAct (w.setCell ⟨A,7,none⟩ (.int .u64 x)) A P ⟨S.put,S.key,S.val,S.first,S.cell,S.h,x,S.ver,S.st,S.found,S.won⟩:=by unfold IsAct at *;simp[World.setCell,Array.getElem?_modify,h]
theorem set8 (h:IsAct w A P S) (x:Int):IsAct (w.setCell ⟨A,8,none⟩ (.int .u32 x)) A P ⟨S.put,S.key,S.val,S.first,S.cell,S.h,S.was,x,S.st,S.found,S.won⟩:=by unfold IsAct at *;simp[World.setCell,Array.getElem?_modify,h]
theorem set9 (h:IsAct w A P S) (st:Nat):IsAct (w.setCell ⟨A,9,none⟩ (nextV A st)) A P ⟨S.put,S.key,S.val,S.first,S.cell,S.h,S.was,S.ver,st,S.found,S.won⟩:=by unfold IsAct at *;simp[World.setCell,Array.getElem?_modify,h]
theorem set10 (h:IsAct w A P S) (b:Bool):IsAct (w.setCell ⟨A,10,none⟩ (.bool b)) A P ⟨S.put,S.key,S.val,S.first,S.cell,S.h,S.was,S.ver,S.st,b,S.won⟩:=by unfold IsAct at *;simp[World.setCell,Array.getElem?_modify,h]
theorem ghost (h:IsAct w A P S) (p:Bool) (k v:Int) (won:Bool):IsAct w A P ⟨p,k,v,S.first,S.cell,S.h,S.was,S.ver,S.st,S.found,won⟩:=h
theorem is (h:IsAct w A P S){S':Ac}(e:S=S'):IsAct w A P S':=e ▸ h
section
variable {R N T base n P':Nat}{c:Nat→Int}{ops fails:Int}
theorem neP (h:IsAct w A P S) (k:IsMem w P' R N c ops fails):A≠P':=fun e=>by unfold IsAct at h;rw[e,k.head]at h;simp at h
theorem neR (h:IsAct w A P S) (k:IsMem w P' R N c ops fails):A≠R:=fun e=>by
 obtain⟨cs,hb,_⟩:=k.row;unfold IsAct at h;rw[e,hb]at h;simp at h
theorem neT (h:IsAct w A P S) (k:Sys w P' R N T base n c ops fails):A≠T:=fun e=>by obtain⟨cs,hb,_⟩:=k.tab;unfold IsAct at h;rw[e,hb]at h;simp at h
theorem moved (h:IsAct w A P S) (k:IsMem w P' R N c ops fails) (m:Moved P' R w w'):IsAct w' A P S:=h.kept (m.block _ h.lt (h.neP k) (h.neR k))
end
end IsAct
def Only (A:Nat) (w w':World):Prop:=Went (fun k=>k=A) w w'
theorem Only.set (A o:Nat) (w:World) (v:Value):Only A w (w.setCell ⟨A,o,none⟩ v):=Went.set (S:=fun k=>k=A) (rfl:A=A) w v
theorem Only.trans {A:Nat}{a b c:World}(h:Only A a b) (k:Only A b c):Only A a c:=Went.trans h k
def Foot (P R A:Nat) (k:Nat):Prop:=k=P∨k=R∨k=A
theorem foot_m {P R A:Nat}{w w':World}(h:Moved P R w w'):Went (Foot P R A) w w':=Went.of_moved h (.inl rfl) (.inr (.inl rfl))
theorem foot_o {P R A:Nat}{w w':World}(h:Only A w w'):Went (Foot P R A) w w':=Went.wider h fun _ e=>.inr (.inr e)
section
variable {w w':World}{P R N T base n A P':Nat}{c:Nat→Int}{ops fails:Int}{S:Ac}
theorem Sys.only (h:Sys w P R N T base n c ops fails) (k:IsAct w A P' S) (o:Only A w w'):Sys w' P R N T base n c ops fails:=by
 refine h.kept fun b hb=>o.block b ?_ ?_
 ·rcases hb with rfl|rfl|rfl
  ·exact h.mem.ltP
  ·exact h.mem.ltR
  ·exact h.ltT
 ·rcases hb with rfl|rfl|rfl
  ·exact fun e=>k.neP h.mem e.symm
  ·exact fun e=>k.neR h.mem e.symm
  ·exact fun e=>k.neT h e.symm
theorem Sys.setA (h:Sys w P R N T base n c ops fails) (k:IsAct w A P' S) (o:Nat) (v:Value):Sys (w.setCell ⟨A,o,none⟩ v) P R N T base n c ops fails:=h.only k (Only.set _ _ _ _)
theorem mkf : ∀(fn:Fn) (first cap:Array Value) (w:World),(Instr.makeFunc fn first cap).run Tryz.prog w = .ok (.func fn first cap) w:=fun _ _ _ _=>rfl
theorem nil_nil (w:World):(binOp .eql 1 .nilFunc .nilFunc).run Tryz.prog w = .ok (.bool true) w:=by kernel_rfl
theorem fun_nil (fn:Fn) (x y:Array Value) (w:World):(binOp .eql 1 (.func fn x y) .nilFunc).run Tryz.prog w = .ok (.bool false) w:=by kernel_rfl
theorem run_store_nil (w:World) (a:Addr) (m:Mode) (hc:(w.cell? a).isSome=true) (hf:w.frozen? a=false):(store a .nilFunc m).run Tryz.prog w = .ok () (w.setCell a .nilFunc):=by
 rw[run_store _ _ _ _ _ rfl];cases h:w.cell? a with
 | none=>rw[h]at hc;cases hc
 | some v=>simp[hf]
theorem run_store_func (fn:Fn) (x y:Array Value) (w:World) (a:Addr) (m:Mode) (hc:(w.cell? a).isSome=true) (hf:w.frozen? a=false):(store a (.func fn x y) m).run Tryz.prog w = .ok () (w.setCell a (.func fn x y)):=by
 rw[run_store _ _ _ _ _ rfl];cases h:w.cell? a with
 | none=>rw[h]at hc;cases hc
 | some v=>simp[hf]
theorem done_any (k:IsAct w A P S) :
  Calls Tryz.prog 167 #[.pointer (some ⟨A,0,none⟩)] w fun e w'=>e = .returned (.bool (decide (S.st=0)))∧w'=w:=by
 have c9:=k.f9;have q1:=nil_nil;have q2:=fun_nil;by_cases h0:S.st=0
 ·unfold nextV at c9;rw[if_pos h0]at c9;rw[decide_eq_true h0];clear h0;go_enter Tryz.func167,Tryz.ntmps167
  go_wp2
  go_ret
  exact⟨rfl,rfl⟩
 ·unfold nextV at c9;rw[if_neg h0]at c9;rw[decide_eq_false h0];generalize nextF S.st=q at c9;clear h0;go_enter Tryz.func167,Tryz.ntmps167
  go_wp2
  go_ret
  exact⟨rfl,rfl⟩
theorem got_any (k:IsAct w A P S) (hh:∀i,0≤S.h i∧S.h i<4294967296) :
  Calls Tryz.prog 147 #[.pointer (some ⟨A,0,none⟩)] w fun e w'=>e = .returned (.tuple #[.int .u64 S.told,.bool S.found])∧∃q,w'=w.drewN q:=by
 have c10:=k.f10;have c5:=k.f5;have c6:=k.f6;unfold Ac.told;by_cases hf:S.found=true
 ·rw[hf]at c10;rw[if_pos hf,hf];have K:=fun q=>join_any (S.h 2) (S.h 3) (w.drewN q) (hh 2).1 (hh 2).2 (hh 3).1 (hh 3).2
  generalize S.h 2=x at c5 K;generalize S.h 3=y at c6 K;clear hf;go_enter Tryz.func147,Tryz.ntmps147
  go_wp2_with fail
  go_quiet (first | (go_at_call 168;exact Calls.quiet_of_same (K _)))
  go_wp2_with fail
  go_ret2
  exact⟨rfl,_,rfl⟩
 ·have hf':S.found=false:=by simpa using hf
  rw[hf']at c10;rw[if_neg hf,hf'];clear hf hf';go_enter Tryz.func147,Tryz.ntmps147
  go_wp2_with fail
  go_ret2
  exact⟨rfl,0,rfl⟩
end
end Go.Proofs.YtnnmdkaoiofabaaGreat.Ch
namespace Go.Proofs.YtnnmdkaoiofabaaGreat.Ch
open Go Go.RowKit
attribute [local go_sem] run_store_nil run_store_func
section
variable {w w':World}{P R N T base n A:Nat}{c:Nat→Int}{ops fails:Int}{S:Ac}
theorem upd_fit {x:Int}(h:U64 c) (hx:0≤x∧x≤18446744073709551615) (j:Nat):U64 (upd c j x):=fun i=>by
 by_cases d:i=j
 ·rw[d,upd_same];exact hx
 ·rw[upd_other _ _ d];exact h i
set_option maxHeartbeats 2000000 in
theorem claim_hit (h:Sys w P R N T base n c ops fails) (k:IsAct w A P S) (f:Fit N S) (hx:c S.first=S.was) :
  Calls Tryz.prog 182 #[.pointer (some ⟨A,0,none⟩)] w fun e w'=>e = .returned (.tuple #[])∧Sys w' P R N T base n (upd c S.first (jn S.ver (S.h 0))) (wrap64 (ops+1)) fails∧IsAct w' A P ⟨S.put,S.key,S.val,S.first,1,S.h,S.was,S.ver,3,S.found,true⟩∧Went (Foot P R A) w w':=by
 have hmf:=mkf;have c0:=k.f0;have c1:=k.f1;have c3:=k.f3;have c7:=k.f7;have c8:=k.f8;have hr:=f.room;have K2:=cas_hit P R N c ops fails w.drew S.first (jn S.ver (S.h 0)) (by omega) h.mem.drew;rw[hx]at K2;have K1:=join_any S.ver (S.h 0) w.drew f.ver.1 f.ver.2 (f.h 0).1 (f.h 0).2;have u:U64 (upd c S.first (jn S.ver (S.h 0))):=upd_fit h.fit (jn_lt f.ver.1 f.ver.2 (f.h 0).1 (f.h 0).2) _;go_enter Tryz.func182,Tryz.ntmps182
 go_wp2_with fail
 go_region_held3 (fun u=>u.cell? ⟨A,0,none⟩=some (.pointer (some ⟨P,0,none⟩))∧u.cell? ⟨A,1,none⟩=some (.int .i64 (S.first:Int))∧u.cell? ⟨A,3,none⟩=some (.int .u32 (S.h 0))∧u.cell? ⟨A,7,none⟩=some (.int .u64 S.was)∧u.cell? ⟨A,8,none⟩=some (.int .u32 S.ver)) (first|assumption|exact⟨c0,c1,c3,c7,c8⟩|exact⟨k1.f0,k1.f1,k1.f3,k1.f7,k1.f8⟩) (first
  | (go_at_call 168;refine K1.mono ?_;clear K1;rintro e w1 ⟨rfl,rfl⟩)
  | (go_at_call 191;refine K2.mono ?_;clear K2;rintro e w1 ⟨rfl,m1,b1⟩;have k1:IsAct w1 A P S:=k.moved h.mem b1.undrew))
 have d2:=k1.f2;have g2:=k1.free 2;have k2:IsAct (w1.setCell ⟨A,2,none⟩ (.int .i64 1)) A P ⟨S.put,S.key,S.val,S.first,1,S.h,S.was,S.ver,S.st,S.found,S.won⟩:=k1.set2 1;have d9:=k2.f9;have g9:=k2.free 9
 go_wp2_with fail
 go_end0
 exact⟨rfl,((h.moved m1 b1.undrew u).setA k1 _ _).setA k2 _ _,(k2.set9 3).ghost _ _ _ true,(foot_m b1.undrew).trans (foot_o ((Only.set A 2 w1 _).trans (Only.set A 9 _ _)))⟩
set_option maxHeartbeats 2000000 in
theorem claim_miss (h:Sys w P R N T base n c ops fails) (k:IsAct w A P S) (f:Fit N S) (hx:¬c S.first=S.was) :
  Calls Tryz.prog 182 #[.pointer (some ⟨A,0,none⟩)] w fun e w'=>e = .returned (.tuple #[])∧Sys w' P R N T base n c (wrap64 (ops+1)) (wrap64 (fails+1))∧IsAct w' A P ⟨S.put,S.key,S.val,S.first,S.cell,S.h,S.was,S.ver,0,S.found,S.won⟩∧Went (Foot P R A) w w':=by
 have hmf:=mkf;have c0:=k.f0;have c1:=k.f1;have c3:=k.f3;have c7:=k.f7;have c8:=k.f8;have hr:=f.room;have K2:=cas_miss P R N c ops fails w.drew S.first S.was (jn S.ver (S.h 0)) (by omega) hx h.mem.drew;have K1:=join_any S.ver (S.h 0) w.drew f.ver.1 f.ver.2 (f.h 0).1 (f.h 0).2;clear hx;go_enter Tryz.func182,Tryz.ntmps182
 go_wp2_with fail
 go_region_held3 (fun u=>u.cell? ⟨A,0,none⟩=some (.pointer (some ⟨P,0,none⟩))∧u.cell? ⟨A,1,none⟩=some (.int .i64 (S.first:Int))∧u.cell? ⟨A,3,none⟩=some (.int .u32 (S.h 0))∧u.cell? ⟨A,7,none⟩=some (.int .u64 S.was)∧u.cell? ⟨A,8,none⟩=some (.int .u32 S.ver)) (first|assumption|exact⟨c0,c1,c3,c7,c8⟩|exact⟨k1.f0,k1.f1,k1.f3,k1.f7,k1.f8⟩) (first
  | (go_at_call 168;refine K1.mono ?_;clear K1;rintro e w1 ⟨rfl,rfl⟩)
  | (go_at_call 191;refine K2.mono ?_;clear K2;rintro e w1 ⟨rfl,m1,b1⟩;have k1:IsAct w1 A P S:=k.moved h.mem b1.undrew))
 have d9:=k1.f9;have g9:=k1.free 9
 go_wp2_with fail
 refine bodyPost_ret (results_none rfl _ _ _) rfl ?_;exact⟨rfl,(h.moved m1 b1.undrew h.fit).setA k1 _ _,k1.set9 0,(foot_m b1.undrew).trans (foot_o (Only.set A 9 w1 _))⟩
set_option maxHeartbeats 2000000 in
theorem look_any (h:Sys w P R N T base n c ops fails) (k:IsAct w A P S) (f:Fit N S) :
  Calls Tryz.prog 172 #[.pointer (some ⟨A,0,none⟩)] w fun e w'=>e = .returned (.tuple #[])∧Sys w' P R N T base n c (wrap64 (ops+1)) fails∧IsAct w' A P ⟨S.put,S.key,S.val,S.first,S.cell,S.h,c S.first,bh (hi (c S.first)),2,S.found,S.won⟩∧Went (Foot P R A) w w':=by
 have hmf:=mkf;have c0:=k.f0;have c1:=k.f1;have hr:=f.room;have K2:=load_in P R N c ops fails w.drew S.first (by omega) h.mem.drew;have hu:=h.fit S.first;generalize c S.first=x at K2 hu;have K3:=fun w=>split_any x w hu.1 hu.2
 have hv:=hi_lt hu.1 hu.2;have K4:=fun w=>behind_any (hi x) w hv.1 hv.2
 generalize hi x=v at K3 K4 hv;generalize bh v=v2 at K4;go_enter Tryz.func172,Tryz.ntmps172
 go_wp2_with fail
 go_region_held3 (fun u=>u.cell? ⟨A,0,none⟩=some (.pointer (some ⟨P,0,none⟩))∧u.cell? ⟨A,1,none⟩=some (.int .i64 (S.first:Int))) (first|assumption|exact⟨c0,c1⟩|exact⟨k1.f0,k1.f1⟩|exact⟨k2.f0,k2.f1⟩) (first
  | (go_at_call 179;refine K2.mono ?_;clear K2;rintro e w1 ⟨rfl,m1,b1⟩;have k1:IsAct w1 A P S:=k.moved h.mem b1.undrew;have k2:=k1.set7 x;have d7:=k1.f7;have g7:=k1.free 7))
 have e7:=k2.f7;have e8:=k2.f8;have g8:=k2.free 8;have k3:=k2.set8 v2;have d9:=k3.f9;have g9:=k3.free 9
 go_wp2_with (first
  | (go_at_call 171;refine(K3 _).mono ?_;rintro e w2 ⟨rfl,rfl⟩)
  | (go_at_call 181;refine(K4 _).mono ?_;rintro e w2 ⟨rfl,rfl⟩))
 go_end0
 exact⟨rfl,(((h.moved m1 b1.undrew h.fit).setA k1 _ _).setA k2 _ _).setA k3 _ _,k3.set9 2,(foot_m b1.undrew).trans (foot_o (((Only.set A 7 w1 _).trans (Only.set A 8 _ _)).trans (Only.set A 9 _ _)))⟩
set_option maxHeartbeats 2000000 in
theorem write_any (h:Sys w P R N T base n c ops fails) (k:IsAct w A P S) (f:Fit N S) (i:Nat) (hi3:i≤3) (hc:S.cell=i) :
  Calls Tryz.prog 192 #[.pointer (some ⟨A,0,none⟩)] w fun e w'=>e = .returned (.tuple #[])∧Sys w' P R N T base n (upd c (S.first+i) (jn S.ver (S.h i))) (wrap64 (ops+1)) fails∧IsAct w' A P ⟨S.put,S.key,S.val,S.first,i+1,S.h,S.was,S.ver,if i+1=4 then 0 else S.st,S.found,S.won⟩∧Went (Foot P R A) w w':=by
 have c0:=k.f0;have c1:=k.f1;have c2:=k.f2;rw[hc]at c2;have ch:=k.fh (show i<4 by omega);have c8:=k.f8;have hr:=f.room;have hsm:=h.small;have K2:=store_in P R N c ops fails w.drew (S.first+i) (jn S.ver (S.h i)) (by omega) h.mem.drew;have K1:=join_any S.ver (S.h i) w.drew f.ver.1 f.ver.2 (f.h i).1 (f.h i).2;have u:U64 (upd c (S.first+i) (jn S.ver (S.h i))):=upd_fit h.fit (jn_lt f.ver.1 f.ver.2 (f.h i).1 (f.h i).2) _;have hw:Aside (IntKind.i64.wrap ((S.first:Int)+(i:Int))=((S.first+i:Nat):Int)):=by simp only[Aside];rw[IntKind.wrap_i64];omega
 have hw1:IntKind.i64.wrap ((S.first:Int)+(i:Int))=(S.first:Int)+(i:Int):=by rw[IntKind.wrap_i64];omega
 have hi4:(i:Int)<4:=by omega
 have hi0:(0:Int)≤(i:Int):=by omega
 have hA:Aside (∀{u:World},IsAct u A P S→u.cell? ⟨A,2,none⟩=some (.int .i64 (i:Int))):=fun q=>by have:=q.f2;rw[hc]at this;exact this
 obtain⟨st',hst⟩:∃st',(if i+1=4 then 0 else S.st)=st':=⟨_,rfl⟩
 rw[hst];have hsA:Aside ((if i+1=4 then 0 else S.st)=st'):=hst;clear hst;generalize hf:S.first=fi at *;generalize hvv:S.ver=vv at *;generalize hhi:S.h i=y at *;go_enter Tryz.func192,Tryz.ntmps192
 go_wp2_with fail
 go_region_held3 (fun u=>u.cell? ⟨A,0,none⟩=some (.pointer (some ⟨P,0,none⟩))∧u.cell? ⟨A,1,none⟩=some (.int .i64 (fi:Int))∧u.cell? ⟨A,2,none⟩=some (.int .i64 (i:Int))∧u.cell? ⟨A,3+i,none⟩=some (.int .u32 y)∧u.cell? ⟨A,8,none⟩=some (.int .u32 vv)) (first|assumption|exact⟨c0,c1,c2,ch,c8⟩|exact S1) (first
  | (go_at_call 168;refine K1.mono ?_;clear K1;rintro e w1 ⟨rfl,rfl⟩)
  | (go_at_call 160;first|rw[hw.out]|skip;refine K2.mono ?_;clear K2;rintro e w1 ⟨rfl,m1,b1⟩;have k1:IsAct w1 A P S:=k.moved h.mem b1.undrew;have S1:w1.cell? ⟨A,0,none⟩=some (.pointer (some ⟨P,0,none⟩))∧w1.cell? ⟨A,1,none⟩=some (.int .i64 (fi:Int))∧w1.cell? ⟨A,2,none⟩=some (.int .i64 (i:Int))∧w1.cell? ⟨A,3+i,none⟩=some (.int .u32 y)∧w1.cell? ⟨A,8,none⟩=some (.int .u32 vv):=⟨k1.f0,by have:=k1.f1;rw[hf]at this;exact this,hA.out k1,by have:=k1.fh (show i<4 by omega);rw[hhi]at this;exact this,by have:=k1.f8;rw[hvv]at this;exact this⟩))
 have d2:=hA.out k1;have g2:=k1.free 2;have k2:IsAct (w1.setCell ⟨A,2,none⟩ (.int .i64 ((i:Int)+1))) A P ⟨S.put,S.key,S.val,S.first,i+1,S.h,S.was,S.ver,S.st,S.found,S.won⟩:=k1.set2 (i+1);have d9:=k2.f9;have g9:=k2.free 9;have h1:=h.moved m1 b1.undrew u;rw[hf,hvv]at k2;by_cases hi:i=3
 ·have e4:((i:Int)+1 == 4)=true:=by simp;omega
  have e5:Aside (0=st'):=by simp only[Aside];rw[← hsA.out,if_pos (by omega)]
  clear S1 hi
  go_wp2_with fail
  go_end0
  exact⟨rfl,(h1.setA k1 _ _).setA k2 _ _,(k2.set9 0).is (by rw[e5.out]),(foot_m b1.undrew).trans (foot_o ((Only.set A 2 w1 _).trans (Only.set A 9 _ _)))⟩
 ·have e4:((i:Int)+1 == 4)=false:=by simp;omega
  have e5:¬(i:Int)+1=4:=by omega
  have e6:Aside (S.st=st'):=by simp only[Aside];rw[← hsA.out,if_neg (by omega)]
  clear S1 hi
  go_wp2_with fail
  go_end0
  exact⟨rfl,h1.setA k1 _ _,k2.is (by rw[e6.out]),(foot_m b1.undrew).trans (foot_o (Only.set A 2 w1 _))⟩
set_option maxHeartbeats 2000000 in
theorem open_any (h:Sys w P R N T base n c ops fails) (k:IsAct w A P S) (f:Fit N S) :
  Calls Tryz.prog 166 #[.pointer (some ⟨A,0,none⟩)] w fun e w'=>e = .returned (.tuple #[])∧Sys w' P R N T base n c (wrap64 (ops+1)) fails∧IsAct w' A P (if hi (c S.first)=0∨¬lo (c S.first)=S.h 0 then ⟨S.put,S.key,S.val,S.first,S.cell,S.h,S.was,S.ver,0,S.found,S.won⟩else ⟨S.put,S.key,S.val,S.first,1,S.h,S.was,hi (c S.first),5,S.found,S.won⟩)∧Went (Foot P R A) w w':=by
 have hmf:=mkf;have c0:=k.f0;have c1:=k.f1;have hr:=f.room;have K2:=load_in P R N c ops fails w.drew S.first (by omega) h.mem.drew;have hu:=h.fit S.first;have hl:=lo_lt (c S.first);generalize c S.first=x at K2 hu hl;have K3:=fun w=>split_any x w hu.1 hu.2
 have hv:=hi_lt hu.1 hu.2;generalize hi x=v at K3 hv;generalize lo x=l at K3 hl;have hh:=f.h 0;by_cases h0:v=0
 ·rw[if_pos (.inl h0)];subst h0;go_enter Tryz.func166,Tryz.ntmps166
  go_wp2_with fail
  go_region_held3 (fun u=>u.cell? ⟨A,0,none⟩=some (.pointer (some ⟨P,0,none⟩))∧u.cell? ⟨A,1,none⟩=some (.int .i64 (S.first:Int))) (first|assumption|exact⟨c0,c1⟩|exact⟨k1.f0,k1.f1⟩) (first
   | (go_at_call 179;refine K2.mono ?_;clear K2;rintro e w1 ⟨rfl,m1,b1⟩;have k1:IsAct w1 A P S:=k.moved h.mem b1.undrew;have d9:=k1.f9;have g9:=k1.free 9)
   | (go_at_call 171;refine(K3 _).mono ?_;rintro e w1 ⟨rfl,rfl⟩))
  go_wp2_with fail
  refine bodyPost_ret (results_none rfl _ _ _) rfl ?_;exact⟨rfl,(h.moved m1 b1.undrew h.fit).setA k1 _ _,k1.set9 0,(foot_m b1.undrew).trans (foot_o (Only.set A 9 w1 _))⟩
 ·have e0:(v == 0)=false:=by simpa using h0
  by_cases h1:l=S.h 0
  ·rw[if_neg (by rintro(q|q);exact h0 q;exact q h1)];have e1:(l != S.h 0)=false:=by simpa using h1
   have h1A:Aside (l=S.h 0):=h1;clear h1;go_enter Tryz.func166,Tryz.ntmps166
   go_wp2_with fail
   go_region_held3 (fun u=>u.cell? ⟨A,0,none⟩=some (.pointer (some ⟨P,0,none⟩))∧u.cell? ⟨A,1,none⟩=some (.int .i64 (S.first:Int))) (first|assumption|exact⟨c0,c1⟩|exact⟨k1.f0,k1.f1⟩) (first
    | (go_at_call 179;refine K2.mono ?_;clear K2;rintro e w1 ⟨rfl,m1,b1⟩;have k1:IsAct w1 A P S:=k.moved h.mem b1.undrew;have d3:=k1.f3;have d8:=k1.f8;have g8:=k1.free 8;have k2:=k1.set8 v;have d2:=k2.f2;have g2:=k2.free 2;have k3:IsAct ((w1.setCell ⟨A,8,none⟩ (.int .u32 v)).setCell ⟨A,2,none⟩ (.int .i64 1)) A P ⟨S.put,S.key,S.val,S.first,1,S.h,S.was,v,S.st,S.found,S.won⟩:=k2.set2 1;have d9:=k3.f9;have g9:=k3.free 9)
    | (go_at_call 171;refine(K3 _).mono ?_;rintro e w1 ⟨rfl,rfl⟩))
   go_wp2_with fail
   go_end0
   exact⟨rfl,(((h.moved m1 b1.undrew h.fit).setA k1 _ _).setA k2 _ _).setA k3 _ _,k3.set9 5,(foot_m b1.undrew).trans (foot_o (((Only.set A 8 w1 _).trans (Only.set A 2 _ _)).trans (Only.set A 9 _ _)))⟩
  ·rw[if_pos (.inr h1)];have e1:(l != S.h 0)=true:=by simpa using h1
   clear h1;go_enter Tryz.func166,Tryz.ntmps166
   go_wp2_with fail
   go_region_held3 (fun u=>u.cell? ⟨A,0,none⟩=some (.pointer (some ⟨P,0,none⟩))∧u.cell? ⟨A,1,none⟩=some (.int .i64 (S.first:Int))) (first|assumption|exact⟨c0,c1⟩|exact⟨k1.f0,k1.f1⟩) (first
    | (go_at_call 179;refine K2.mono ?_;clear K2;rintro e w1 ⟨rfl,m1,b1⟩;have k1:IsAct w1 A P S:=k.moved h.mem b1.undrew;have d3:=k1.f3;have d9:=k1.f9;have g9:=k1.free 9)
    | (go_at_call 171;refine(K3 _).mono ?_;rintro e w1 ⟨rfl,rfl⟩))
   go_wp2_with fail
   refine bodyPost_ret (results_none rfl _ _ _) rfl ?_;exact⟨rfl,(h.moved m1 b1.undrew h.fit).setA k1 _ _,k1.set9 0,(foot_m b1.undrew).trans (foot_o (Only.set A 9 w1 _))⟩
end
end Go.Proofs.YtnnmdkaoiofabaaGreat.Ch
namespace Go.Proofs.YtnnmdkaoiofabaaGreat.Ch
open Go Go.RowKit
attribute [local go_sem] run_store_nil run_store_func
section
variable {w w':World}{P R N T base n A:Nat}{c:Nat→Int}{ops fails:Int}{S:Ac}
theorem Sys.drewN (h:Sys w P R N T base n c ops fails) (q:Nat):Sys (w.drewN q) P R N T base n c ops fails:=h.kept fun _ _=>rfl
theorem IsAct.drewN (h:IsAct w A P S) (q:Nat):IsAct (w.drewN q) A P S:=h
theorem Went.drawn (F:Nat→Prop) (a:World) (q:Nat):Went F a (a.drewN q):=⟨rfl,rfl,rfl,Nat.le_refl _,fun _ _ _=>rfl⟩
set_option maxHeartbeats 2000000 in
theorem read_old (h:Sys w P R N T base n c ops fails) (k:IsAct w A P S) (f:Fit N S) (i:Nat) (hi3:i≤3) (hc:S.cell=i) (hx:¬hi (c (S.first+i))=S.ver) :
  Calls Tryz.prog 180 #[.pointer (some ⟨A,0,none⟩)] w fun e w'=>e = .returned (.tuple #[])∧Sys w' P R N T base n c (wrap64 (ops+1)) fails∧IsAct w' A P ⟨S.put,S.key,S.val,S.first,S.cell,S.h,S.was,S.ver,0,S.found,S.won⟩∧Went (Foot P R A) w w':=by
 have c0:=k.f0;have c1:=k.f1;have c2:=k.f2;rw[hc]at c2;have hr:=f.room;have hsm:=h.small;have K2:=load_in P R N c ops fails w.drew (S.first+i) (by omega) h.mem.drew;have hw:Aside (IntKind.i64.wrap ((S.first:Int)+(i:Int))=((S.first+i:Nat):Int)):=by simp only[Aside];rw[IntKind.wrap_i64];omega
 have hw1:IntKind.i64.wrap ((S.first:Int)+(i:Int))=(S.first:Int)+(i:Int):=by rw[IntKind.wrap_i64];omega
 have hu:=h.fit (S.first+i);generalize c (S.first+i)=x at K2 hu hx;have K3:=fun w=>split_any x w hu.1 hu.2
 have e1:(hi x != S.ver)=true:=by simpa using hx
 clear hx;generalize hi x=v at K3 e1;have hA:Aside (∀{u:World},IsAct u A P S→u.cell? ⟨A,2,none⟩=some (.int .i64 (i:Int))):=fun q=>by have:=q.f2;rw[hc]at this;exact this
 go_enter Tryz.func180,Tryz.ntmps180
 go_wp2_with fail
 go_region_held3 (fun u=>u.cell? ⟨A,0,none⟩=some (.pointer (some ⟨P,0,none⟩))∧u.cell? ⟨A,1,none⟩=some (.int .i64 (S.first:Int))∧u.cell? ⟨A,2,none⟩=some (.int .i64 (i:Int))) (first|assumption|exact⟨c0,c1,c2⟩|exact⟨k1.f0,k1.f1,hA.out k1⟩) (first
  | (go_at_call 179;first|rw[hw.out]|skip;refine K2.mono ?_;clear K2;rintro e w1 ⟨rfl,m1,b1⟩;have k1:IsAct w1 A P S:=k.moved h.mem b1.undrew;have d8:=k1.f8)
  | (go_at_call 171;refine(K3 _).mono ?_;rintro e w1 ⟨rfl,rfl⟩))
 go_wp2_with fail
 go_quiet (fail)
 have h1:=h.moved m1 b1.undrew h.fit;have h2:=h1.drewN nq;have k2:=k1.drewN nq;have d9:=k2.f9;have g9:=k2.free 9
 go_wp2_with fail
 refine bodyPost_ret (results_none rfl _ _ _) rfl ?_;exact⟨rfl,h2.setA k2 _ _,k2.set9 0,(foot_m b1.undrew).trans ((Went.drawn _ _ _).trans (foot_o (Only.set A 9 _ _)))⟩
set_option maxHeartbeats 4000000 in
theorem read_other (h:Sys w P R N T base n c ops fails) (k:IsAct w A P S) (f:Fit N S) (hc:S.cell=1) (hx:hi (c (S.first+1))=S.ver) (hy:¬lo (c (S.first+1))=S.h 1) :
  Calls Tryz.prog 180 #[.pointer (some ⟨A,0,none⟩)] w fun e w'=>e = .returned (.tuple #[])∧Sys w' P R N T base n c (wrap64 (ops+1)) fails∧IsAct w' A P ⟨S.put,S.key,S.val,S.first,S.cell,S.h,S.was,S.ver,0,S.found,S.won⟩∧Went (Foot P R A) w w':=by
 have c0:=k.f0;have c1:=k.f1;have c2:w.cell? ⟨A,2,none⟩=some (.int .i64 1):=(by have:=k.f2;rw[hc]at this;exact this)
 have hr:=f.room;have hsm:=h.small;have K2:=load_in P R N c ops fails w.drew (S.first+1) (by omega) h.mem.drew;have hw:Aside (IntKind.i64.wrap ((S.first:Int)+1)=((S.first+1:Nat):Int)):=by simp only[Aside];rw[IntKind.wrap_i64];omega
 have hw1:IntKind.i64.wrap ((S.first:Int)+1)=(S.first:Int)+1:=by rw[IntKind.wrap_i64];omega
 have hu:=h.fit (S.first+1);have hA:Aside (∀{u:World},IsAct u A P S→u.cell? ⟨A,2,none⟩=some (.int .i64 1)):=fun q=>by have:=q.f2;rw[hc]at this;exact this
 have hv:hi (c (S.first+1))=S.ver:=hx;generalize c (S.first+1)=x at K2 hu hv hy;have K3:=fun w=>split_any x w hu.1 hu.2
 rw[hv]at K3;have e1:(S.ver != S.ver)=false:=by simp
 clear hx hv;have e2:(lo x != S.h 1)=true:=by simpa using hy
 clear hy;generalize lo x=l at K3 e2;go_enter Tryz.func180,Tryz.ntmps180
 go_wp2_with fail
 go_region_held3 (fun u=>u.cell? ⟨A,0,none⟩=some (.pointer (some ⟨P,0,none⟩))∧u.cell? ⟨A,1,none⟩=some (.int .i64 (S.first:Int))∧u.cell? ⟨A,2,none⟩=some (.int .i64 1)) (first|assumption|exact⟨c0,c1,c2⟩|exact⟨k1.f0,k1.f1,hA.out k1⟩) (first
  | (go_at_call 179;first|rw[hw.out]|skip;refine K2.mono ?_;clear K2;rintro e w1 ⟨rfl,m1,b1⟩;have k1:IsAct w1 A P S:=k.moved h.mem b1.undrew;have d8:=k1.f8;have d2:=hA.out k1;have d4:=k1.f4)
  | (go_at_call 171;refine(K3 _).mono ?_;rintro e w1 ⟨rfl,rfl⟩))
 go_wp2_with fail
 go_quiet (fail)
 have h1:=h.moved m1 b1.undrew h.fit;have h2:=h1.drewN nq;have k2:=k1.drewN nq;have d9:=k2.f9;have g9:=k2.free 9
 go_wp2_with fail
 refine bodyPost_ret (results_none rfl _ _ _) rfl ?_;exact⟨rfl,h2.setA k2 _ _,k2.set9 0,(foot_m b1.undrew).trans ((Went.drawn _ _ _).trans (foot_o (Only.set A 9 _ _)))⟩
set_option maxHeartbeats 4000000 in
theorem read_go1 (h:Sys w P R N T base n c ops fails) (k:IsAct w A P S) (f:Fit N S) (hc:S.cell=1) (hx:hi (c (S.first+1))=S.ver) (hy:1<2→lo (c (S.first+1))=S.h 1) :
  Calls Tryz.prog 180 #[.pointer (some ⟨A,0,none⟩)] w fun e w'=>e = .returned (.tuple #[])∧Sys w' P R N T base n c (wrap64 (ops+1)) fails∧IsAct w' A P ⟨S.put,S.key,S.val,S.first,2,upd S.h 1 (lo (c (S.first+1))),S.was,S.ver,S.st,S.found,S.won⟩∧Went (Foot P R A) w w':=by
 have c0:=k.f0;have c1:=k.f1;have c2:w.cell? ⟨A,2,none⟩=some (.int .i64 1):=(by have:=k.f2;rw[hc]at this;exact this)
 have hr:=f.room;have hsm:=h.small;have K2:=load_in P R N c ops fails w.drew (S.first+1) (by omega) h.mem.drew;have hw:Aside (IntKind.i64.wrap ((S.first:Int)+1)=((S.first+1:Nat):Int)):=by simp only[Aside];rw[IntKind.wrap_i64];omega
 have hw1:IntKind.i64.wrap ((S.first:Int)+1)=(S.first:Int)+1:=by rw[IntKind.wrap_i64];omega
 have hu:=h.fit (S.first+1);have hA:Aside (∀{u:World},IsAct u A P S→u.cell? ⟨A,2,none⟩=some (.int .i64 1)):=fun q=>by have:=q.f2;rw[hc]at this;exact this
 have hv:hi (c (S.first+1))=S.ver:=hx;generalize c (S.first+1)=x at K2 hu hv hy;have K3:=fun w=>split_any x w hu.1 hu.2
 rw[hv]at K3;have e1:(S.ver != S.ver)=false:=by simp
 clear hx hv;have hy1:=hy (by omega);have e2:(lo x != S.h 1)=false:=by simpa using hy1
 clear hy hy1;generalize lo x=l at K3 e2 ⊢;go_enter Tryz.func180,Tryz.ntmps180
 go_wp2_with fail
 go_region_held3 (fun u=>u.cell? ⟨A,0,none⟩=some (.pointer (some ⟨P,0,none⟩))∧u.cell? ⟨A,1,none⟩=some (.int .i64 (S.first:Int))∧u.cell? ⟨A,2,none⟩=some (.int .i64 1)) (first|assumption|exact⟨c0,c1,c2⟩|exact⟨k1.f0,k1.f1,hA.out k1⟩) (first
  | (go_at_call 179;first|rw[hw.out]|skip;refine K2.mono ?_;clear K2;rintro e w1 ⟨rfl,m1,b1⟩;have k1:IsAct w1 A P S:=k.moved h.mem b1.undrew;have d8:=k1.f8;have d2:=hA.out k1;have d4:=k1.f4)
  | (go_at_call 171;refine(K3 _).mono ?_;rintro e w1 ⟨rfl,rfl⟩))
 go_wp2_with fail
 go_quiet (fail)
 have h1:=h.moved m1 b1.undrew h.fit;have h2:=h1.drewN (nq+1);have k2:=k1.drewN (nq+1);have k3:IsAct ((w1.drewN (nq+1)).setCell ⟨A,4,none⟩ (.int .u32 l)) A P ⟨S.put,S.key,S.val,S.first,S.cell,upd S.h 1 l,S.was,S.ver,S.st,S.found,S.won⟩:=k2.seth (show 1<4 by omega) l;have f2:(w1.drewN (nq+1)).cell? ⟨A,2,none⟩=some (.int .i64 1):=d2;have f3:(w1.drewN (nq+1)).cell? ⟨A,4,none⟩=some (.int .u32 (S.h 1)):=k2.fh (show 1<4 by omega);have g3:=k2.free 4
 go_wp2_with fail
 go_region
 have v2:((w1.drewN (nq+1)).setCell ⟨A,4,none⟩ (.int .u32 l)).cell? ⟨A,2,none⟩=some (.int .i64 1):=(by have:=k3.f2;simp only[hc]at this;exact this)
 have u2:=k3.free 2;have k4:IsAct (((w1.drewN (nq+1)).setCell ⟨A,4,none⟩ (.int .u32 l)).setCell ⟨A,2,none⟩ (.int .i64 2)) A P ⟨S.put,S.key,S.val,S.first,2,upd S.h 1 l,S.was,S.ver,S.st,S.found,S.won⟩:=k3.set2 2
 go_wp2_with fail
 go_end0
 exact⟨rfl,(h2.setA k2 _ _).setA k3 _ _,k4,(foot_m b1.undrew).trans ((Went.drawn _ _ _).trans (foot_o ((Only.set A 4 _ _).trans (Only.set A 2 _ _))))⟩
set_option maxHeartbeats 4000000 in
theorem read_go2 (h:Sys w P R N T base n c ops fails) (k:IsAct w A P S) (f:Fit N S) (hc:S.cell=2) (hx:hi (c (S.first+2))=S.ver) :
  Calls Tryz.prog 180 #[.pointer (some ⟨A,0,none⟩)] w fun e w'=>e = .returned (.tuple #[])∧Sys w' P R N T base n c (wrap64 (ops+1)) fails∧IsAct w' A P ⟨S.put,S.key,S.val,S.first,3,upd S.h 2 (lo (c (S.first+2))),S.was,S.ver,S.st,S.found,S.won⟩∧Went (Foot P R A) w w':=by
 have c0:=k.f0;have c1:=k.f1;have c2:w.cell? ⟨A,2,none⟩=some (.int .i64 2):=(by have:=k.f2;rw[hc]at this;exact this)
 have hr:=f.room;have hsm:=h.small;have K2:=load_in P R N c ops fails w.drew (S.first+2) (by omega) h.mem.drew;have hw:Aside (IntKind.i64.wrap ((S.first:Int)+2)=((S.first+2:Nat):Int)):=by simp only[Aside];rw[IntKind.wrap_i64];omega
 have hw1:IntKind.i64.wrap ((S.first:Int)+2)=(S.first:Int)+2:=by rw[IntKind.wrap_i64];omega
 have hu:=h.fit (S.first+2);have hA:Aside (∀{u:World},IsAct u A P S→u.cell? ⟨A,2,none⟩=some (.int .i64 2)):=fun q=>by have:=q.f2;rw[hc]at this;exact this
 have hv:hi (c (S.first+2))=S.ver:=hx;generalize c (S.first+2)=x at K2 hu hv;have K3:=fun w=>split_any x w hu.1 hu.2
 rw[hv]at K3;have e1:(S.ver != S.ver)=false:=by simp
 clear hx hv;generalize lo x=l at K3 ⊢;go_enter Tryz.func180,Tryz.ntmps180
 go_wp2_with fail
 go_region_held3 (fun u=>u.cell? ⟨A,0,none⟩=some (.pointer (some ⟨P,0,none⟩))∧u.cell? ⟨A,1,none⟩=some (.int .i64 (S.first:Int))∧u.cell? ⟨A,2,none⟩=some (.int .i64 2)) (first|assumption|exact⟨c0,c1,c2⟩|exact⟨k1.f0,k1.f1,hA.out k1⟩) (first
  | (go_at_call 179;first|rw[hw.out]|skip;refine K2.mono ?_;clear K2;rintro e w1 ⟨rfl,m1,b1⟩;have k1:IsAct w1 A P S:=k.moved h.mem b1.undrew;have d8:=k1.f8;have d2:=hA.out k1;have d4:=k1.f4)
  | (go_at_call 171;refine(K3 _).mono ?_;rintro e w1 ⟨rfl,rfl⟩))
 go_wp2_with fail
 go_quiet (fail)
 have h1:=h.moved m1 b1.undrew h.fit;have h2:=h1.drewN (nq+1);have k2:=k1.drewN (nq+1);have k3:IsAct ((w1.drewN (nq+1)).setCell ⟨A,5,none⟩ (.int .u32 l)) A P ⟨S.put,S.key,S.val,S.first,S.cell,upd S.h 2 l,S.was,S.ver,S.st,S.found,S.won⟩:=k2.seth (show 2<4 by omega) l;have f2:(w1.drewN (nq+1)).cell? ⟨A,2,none⟩=some (.int .i64 2):=d2;have f3:(w1.drewN (nq+1)).cell? ⟨A,5,none⟩=some (.int .u32 (S.h 2)):=k2.fh (show 2<4 by omega);have g3:=k2.free 5
 go_wp2_with fail
 go_region
 have v2:((w1.drewN (nq+1)).setCell ⟨A,5,none⟩ (.int .u32 l)).cell? ⟨A,2,none⟩=some (.int .i64 2):=(by have:=k3.f2;simp only[hc]at this;exact this)
 have u2:=k3.free 2;have k4:IsAct (((w1.drewN (nq+1)).setCell ⟨A,5,none⟩ (.int .u32 l)).setCell ⟨A,2,none⟩ (.int .i64 3)) A P ⟨S.put,S.key,S.val,S.first,3,upd S.h 2 l,S.was,S.ver,S.st,S.found,S.won⟩:=k3.set2 3
 go_wp2_with fail
 go_end0
 exact⟨rfl,(h2.setA k2 _ _).setA k3 _ _,k4,(foot_m b1.undrew).trans ((Went.drawn _ _ _).trans (foot_o ((Only.set A 5 _ _).trans (Only.set A 2 _ _))))⟩
set_option maxHeartbeats 4000000 in
theorem read_go3 (h:Sys w P R N T base n c ops fails) (k:IsAct w A P S) (f:Fit N S) (hc:S.cell=3) (hx:hi (c (S.first+3))=S.ver) :
  Calls Tryz.prog 180 #[.pointer (some ⟨A,0,none⟩)] w fun e w'=>e = .returned (.tuple #[])∧Sys w' P R N T base n c (wrap64 (ops+1)) fails∧IsAct w' A P ⟨S.put,S.key,S.val,S.first,4,upd S.h 3 (lo (c (S.first+3))),S.was,S.ver,0,true,S.won⟩∧Went (Foot P R A) w w':=by
 have c0:=k.f0;have c1:=k.f1;have c2:w.cell? ⟨A,2,none⟩=some (.int .i64 3):=(by have:=k.f2;rw[hc]at this;exact this)
 have hr:=f.room;have hsm:=h.small;have K2:=load_in P R N c ops fails w.drew (S.first+3) (by omega) h.mem.drew;have hw:Aside (IntKind.i64.wrap ((S.first:Int)+3)=((S.first+3:Nat):Int)):=by simp only[Aside];rw[IntKind.wrap_i64];omega
 have hw1:IntKind.i64.wrap ((S.first:Int)+3)=(S.first:Int)+3:=by rw[IntKind.wrap_i64];omega
 have hu:=h.fit (S.first+3);have hA:Aside (∀{u:World},IsAct u A P S→u.cell? ⟨A,2,none⟩=some (.int .i64 3)):=fun q=>by have:=q.f2;rw[hc]at this;exact this
 have hv:hi (c (S.first+3))=S.ver:=hx;generalize c (S.first+3)=x at K2 hu hv;have K3:=fun w=>split_any x w hu.1 hu.2
 rw[hv]at K3;have e1:(S.ver != S.ver)=false:=by simp
 clear hx hv;generalize lo x=l at K3 ⊢;go_enter Tryz.func180,Tryz.ntmps180
 go_wp2_with fail
 go_region_held3 (fun u=>u.cell? ⟨A,0,none⟩=some (.pointer (some ⟨P,0,none⟩))∧u.cell? ⟨A,1,none⟩=some (.int .i64 (S.first:Int))∧u.cell? ⟨A,2,none⟩=some (.int .i64 3)) (first|assumption|exact⟨c0,c1,c2⟩|exact⟨k1.f0,k1.f1,hA.out k1⟩) (first
  | (go_at_call 179;first|rw[hw.out]|skip;refine K2.mono ?_;clear K2;rintro e w1 ⟨rfl,m1,b1⟩;have k1:IsAct w1 A P S:=k.moved h.mem b1.undrew;have d8:=k1.f8;have d2:=hA.out k1;have d4:=k1.f4)
  | (go_at_call 171;refine(K3 _).mono ?_;rintro e w1 ⟨rfl,rfl⟩))
 go_wp2_with fail
 go_quiet (fail)
 have h1:=h.moved m1 b1.undrew h.fit;have h2:=h1.drewN (nq+1);have k2:=k1.drewN (nq+1);have k3:IsAct ((w1.drewN (nq+1)).setCell ⟨A,6,none⟩ (.int .u32 l)) A P ⟨S.put,S.key,S.val,S.first,S.cell,upd S.h 3 l,S.was,S.ver,S.st,S.found,S.won⟩:=k2.seth (show 3<4 by omega) l;have f2:(w1.drewN (nq+1)).cell? ⟨A,2,none⟩=some (.int .i64 3):=d2;have f3:(w1.drewN (nq+1)).cell? ⟨A,6,none⟩=some (.int .u32 (S.h 3)):=k2.fh (show 3<4 by omega);have g3:=k2.free 6
 go_wp2_with fail
 go_region
 have v2:((w1.drewN (nq+1)).setCell ⟨A,6,none⟩ (.int .u32 l)).cell? ⟨A,2,none⟩=some (.int .i64 3):=(by have:=k3.f2;simp only[hc]at this;exact this)
 have u2:=k3.free 2;have k4:IsAct (((w1.drewN (nq+1)).setCell ⟨A,6,none⟩ (.int .u32 l)).setCell ⟨A,2,none⟩ (.int .i64 4)) A P ⟨S.put,S.key,S.val,S.first,4,upd S.h 3 l,S.was,S.ver,S.st,S.found,S.won⟩:=k3.set2 4;have v10:=k4.f10;have u10:=k4.free 10;have k5:=k4.set10 true;have v9:=k5.f9;have u9:=k5.free 9
 go_wp2_with fail
 go_end0
 exact⟨rfl,(((h2.setA k2 _ _).setA k3 _ _).setA k4 _ _).setA k5 _ _,k5.set9 0,(foot_m b1.undrew).trans ((Went.drawn _ _ _).trans (foot_o ((((Only.set A 6 _ _).trans (Only.set A 2 _ _)).trans (Only.set A 10 _ _)).trans (Only.set A 9 _ _))))⟩
theorem read_any (h:Sys w P R N T base n c ops fails) (k:IsAct w A P S) (f:Fit N S) (h5:S.st=5) :
  Calls Tryz.prog 180 #[.pointer (some ⟨A,0,none⟩)] w fun e w'=>e = .returned (.tuple #[])∧Sys w' P R N T base n c (wrap64 (ops+1)) fails∧IsAct w' A P (S.nxt c)∧Went (Foot P R A) w w':=by
 have hcl:=f.cell (.inr h5);rw[nxt5 h5];by_cases h0:¬hi (c (S.first+S.cell))=S.ver
 ·rw[if_pos (.inl h0)];exact read_old h k f S.cell hcl.2 rfl h0
 ·have h0':hi (c (S.first+S.cell))=S.ver:=Classical.byContradiction h0;by_cases h1:S.cell<2∧¬lo (c (S.first+S.cell))=S.h S.cell
  ·rw[if_pos (.inr h1)];have e:S.cell=1:=by omega
   rw[e]at h0' h1;exact read_other h k f e h0' h1.2
  ·rw[if_neg (by rintro(q|q);exact h0 q;exact h1 q)];have hy:S.cell<2→lo (c (S.first+S.cell))=S.h S.cell:=fun q=>Classical.byContradiction fun z=>h1 ⟨q,z⟩
   obtain e|e|e:S.cell=1∨S.cell=2∨S.cell=3:=by omega
   ·rw[e]at h0' hy ⊢;have:=read_go1 h k f e h0' hy;rw[h5]at this;exact this
   ·rw[e]at h0' hy ⊢;have:=read_go2 h k f e h0';rw[h5]at this;exact this
   ·rw[e]at h0' hy ⊢;exact read_go3 h k f e h0'
end
end Go.Proofs.YtnnmdkaoiofabaaGreat.Ch
namespace Go.Proofs.YtnnmdkaoiofabaaGreat.Ch
open Go Go.RowKit
attribute [local go_sem] run_store_nil run_store_func
section
variable {w w':World}{P R N T base n A:Nat}{c:Nat→Int}{ops fails:Int}{S:Ac}
theorem Fit.cellLe (f:Fit N S) (h:S.st=3):S.cell≤3:=(f.cell (.inl h)).2
theorem next_any (h:Sys w P R N T base n c ops fails) (k:IsAct w A P S) (f:Fit N S) (h0:¬S.st=0) (q:Nat) (hq:q=nextF S.st) :
  Calls Tryz.prog q #[.pointer (some ⟨A,0,none⟩)] w fun e w'=>e = .returned (.tuple #[])∧(∃f',Sys w' P R N T base n (S.after c) (wrap64 (ops+1)) f')∧IsAct w' A P (S.nxt c)∧Went (Foot P R A) w w':=by
 subst hq;rcases six f.st with e|e|e|e|e|e
 ·exact absurd e h0
 ·have eq:nextF S.st=172:=by rw[e];rfl
  rw[eq,nxt1 e,after_same (fun q=>by omega) (by omega)];refine(look_any h k f).mono ?_;rintro _ w1 ⟨rfl,h1,k1,b1⟩;exact⟨rfl,⟨_,h1⟩,k1,b1⟩
 ·have eq:nextF S.st=182:=by rw[e];rfl
  rw[eq,nxt2 e];by_cases hx:c S.first=S.was
  ·rw[if_pos hx,after2 e hx];refine(claim_hit h k f hx).mono ?_;rintro _ w1 ⟨rfl,h1,k1,b1⟩;exact⟨rfl,⟨_,h1⟩,k1,b1⟩
  ·rw[if_neg hx,after_same (fun _=>hx) (by omega)];refine(claim_miss h k f hx).mono ?_;rintro _ w1 ⟨rfl,h1,k1,b1⟩;exact⟨rfl,⟨_,h1⟩,k1,b1⟩
 ·have eq:nextF S.st=192:=by rw[e];rfl
  rw[eq,nxt3 e,after3 e];refine(write_any h k f S.cell (f.cellLe e) rfl).mono ?_;rw[e];rintro _ w1 ⟨rfl,h1,k1,b1⟩;exact⟨rfl,⟨_,h1⟩,k1,b1⟩
 ·have eq:nextF S.st=166:=by rw[e];rfl
  rw[eq,nxt4 e,after_same (fun q=>by omega) (by omega)];refine(open_any h k f).mono ?_;rintro _ w1 ⟨rfl,h1,k1,b1⟩;exact⟨rfl,⟨_,h1⟩,k1,b1⟩
 ·have eq:nextF S.st=180:=by rw[e];rfl
  rw[eq,after_same (fun q=>by omega) (by omega)];refine(read_any h k f e).mono ?_;rintro _ w1 ⟨rfl,h1,k1,b1⟩;exact⟨rfl,⟨_,h1⟩,k1,b1⟩
theorem step_on (h:Sys w P R N T base n c ops fails) (k:IsAct w A P S) (f:Fit N S) (h0:¬S.st=0) :
  Calls Tryz.prog 146 #[.pointer (some ⟨A,0,none⟩)] w fun e w'=>e = .returned (.bool (decide ((S.nxt c).st=0)))∧(∃f',Sys w' P R N T base n (S.after c) (wrap64 (ops+1)) f')∧IsAct w' A P (S.nxt c)∧Went (Foot P R A) w w':=by
 have K1:=done_any k;rw[decide_eq_false h0]at K1;have c9:=k.f9;unfold nextV at c9;rw[if_neg h0]at c9;obtain⟨q,hq⟩:∃q:Nat,q=nextF S.st:=⟨_,rfl⟩
 have K2:=next_any h k f h0 q hq;rw[← hq]at c9;have hf5:q=172∨q=182∨q=192∨q=166∨q=180:=by
  rw[hq];rcases six f.st with e|e|e|e|e|e
  ·exact absurd e h0
  ·rw[e];exact .inl rfl
  ·rw[e];exact .inr (.inl rfl)
  ·rw[e];exact .inr (.inr (.inl rfl))
  ·rw[e];exact .inr (.inr (.inr (.inl rfl)))
  ·rw[e];exact .inr (.inr (.inr (.inr rfl)))
 clear hq h0;generalize S.nxt c=S' at K2;rcases hf5 with rfl|rfl|rfl|rfl|rfl
 ·go_enter Tryz.func146,Tryz.ntmps146
  go_wp2_with (first
   | (go_at_call 167;refine K1.mono ?_;clear K1;rintro e w1 ⟨rfl,rfl⟩)
   | (go_at_call 172;refine K2.mono ?_;clear K2;rintro e w2 ⟨rfl,h2,k2,b2⟩;have K1:=done_any k2))
  go_ret
  exact⟨rfl,h2,k2,b2⟩
 ·go_enter Tryz.func146,Tryz.ntmps146
  go_wp2_with (first
   | (go_at_call 167;refine K1.mono ?_;clear K1;rintro e w1 ⟨rfl,rfl⟩)
   | (go_at_call 182;refine K2.mono ?_;clear K2;rintro e w2 ⟨rfl,h2,k2,b2⟩;have K1:=done_any k2))
  go_ret
  exact⟨rfl,h2,k2,b2⟩
 ·go_enter Tryz.func146,Tryz.ntmps146
  go_wp2_with (first
   | (go_at_call 167;refine K1.mono ?_;clear K1;rintro e w1 ⟨rfl,rfl⟩)
   | (go_at_call 192;refine K2.mono ?_;clear K2;rintro e w2 ⟨rfl,h2,k2,b2⟩;have K1:=done_any k2))
  go_ret
  exact⟨rfl,h2,k2,b2⟩
 ·go_enter Tryz.func146,Tryz.ntmps146
  go_wp2_with (first
   | (go_at_call 167;refine K1.mono ?_;clear K1;rintro e w1 ⟨rfl,rfl⟩)
   | (go_at_call 166;refine K2.mono ?_;clear K2;rintro e w2 ⟨rfl,h2,k2,b2⟩;have K1:=done_any k2))
  go_ret
  exact⟨rfl,h2,k2,b2⟩
 ·go_enter Tryz.func146,Tryz.ntmps146
  go_wp2_with (first
   | (go_at_call 167;refine K1.mono ?_;clear K1;rintro e w1 ⟨rfl,rfl⟩)
   | (go_at_call 180;refine K2.mono ?_;clear K2;rintro e w2 ⟨rfl,h2,k2,b2⟩;have K1:=done_any k2))
  go_ret
  exact⟨rfl,h2,k2,b2⟩
theorem step_off (k:IsAct w A P S) (h0:S.st=0) :
  Calls Tryz.prog 146 #[.pointer (some ⟨A,0,none⟩)] w fun e w'=>e = .returned (.bool true)∧w'=w:=by
 have K1:=done_any k;rw[decide_eq_true h0]at K1;have K2:=K1;clear h0;go_enter Tryz.func146,Tryz.ntmps146
 go_wp2_with (first
  | (go_at_call 167;refine K1.mono ?_;clear K1;rintro e w1 ⟨rfl,rfl⟩)
  | (go_at_call 167;refine K2.mono ?_;clear K2;rintro e w1 ⟨rfl,rfl⟩))
 go_ret
 exact⟨rfl,rfl⟩
theorem after0 (h:S.st=0):S.after c=c:=after_same (fun q=>by omega) (by omega)
theorem step_any (h:Sys w P R N T base n c ops fails) (k:IsAct w A P S) (f:Fit N S) :
  Calls Tryz.prog 146 #[.pointer (some ⟨A,0,none⟩)] w fun e w'=>e = .returned (.bool (decide ((S.nxt c).st=0)))∧(∃o' f',Sys w' P R N T base n (S.after c) o' f')∧IsAct w' A P (S.nxt c)∧Went (Foot P R A) w w':=by
 by_cases h0:S.st=0
 ·rw[nxt0 h0,after0 h0,decide_eq_true h0];refine(step_off k h0).mono ?_;rintro _ w1 ⟨rfl,rfl⟩;exact⟨rfl,⟨_,_,h⟩,k,Went.refl _ _⟩
 ·refine(step_on h k f h0).mono ?_;rintro _ w1 ⟨rfl,⟨f',h1⟩,k1,b1⟩;exact⟨rfl,⟨_,_,h1⟩,k1,b1⟩
end
end Go.Proofs.YtnnmdkaoiofabaaGreat.Ch
namespace Go.Proofs.YtnnmdkaoiofabaaGreat.Ch
open Go Go.RowKit
attribute [local go_sem] run_store_nil run_store_func
section
variable {w w':World}{P R N T base n A:Nat}{c:Nat→Int}{ops fails:Int}{S:Ac}
theorem cells_any (n:Nat) (w:World) (hn:n≤1000000) :
  Calls Tryz.prog 36 #[.int .i64 (n:Int)] w fun e w'=>e = .returned (.int .i64 (4*(n:Int)))∧w'=w:=by
 have h1:¬(2305843009213693951:Int)<(n:Int):=by omega
 have hmx:(if (0:Int) > (n:Int)then 0 else (n:Int))=(n:Int):=if_neg (by omega);have h2:¬(n:Int)<0:=by omega
 go_enter Tryz.func36,Tryz.ntmps36
 go_wp2
 go_ret
 exact⟨rfl,rfl⟩
theorem cache_new (h:IsMem w P R N c ops fails) (base n:Nat) (hn:1≤n) (hn2:n≤1024) (hr:base+4*n≤N) (hN:N≤262144) :
  Calls Tryz.prog 38 #[.pointer (some ⟨P,0,none⟩),.int .i64 (base:Int),.int .i64 (n:Int)] w fun e w'=>e = .returned (.tuple #[.pointer (some ⟨w.heap.size,0,none⟩),.int .i64 0])∧w'=w.alloc (.cells #[.pointer (some ⟨P,0,none⟩),.int .i64 (base:Int),.int .i64 (n:Int)] 89):=by
 have K:=len_any P R N c ops fails w h;have K2:=cells_any n w (by omega);have h1:¬(base:Int)<0:=by omega
 have h2:¬(n:Int)<1:=by omega
 have h3:¬(1024:Int)<(n:Int):=by omega
 have h4:¬(N:Int)-(base:Int)<4*(n:Int):=by omega
 go_enter Tryz.func38,Tryz.ntmps38
 go_wp2_with (first
  | (go_at_call 36;refine K2.mono ?_;clear K2;rintro e w1 ⟨rfl,rfl⟩)
  | (go_at_call 74;refine K.mono ?_;clear K;rintro e w1 ⟨rfl,rfl⟩))
 go_ret2
 exact⟨rfl,rfl⟩
def line (base n:Nat) (key:Int):Nat:=base+4*home key n
theorem Sys.line_lt (h:Sys w P R N T base n c ops fails) (key:Int):line base n key+4≤N:=by
 have:=home_lt key h.pos;have:=h.room;unfold line;omega
theorem IsAct.hs {h':Nat→Int}(k:IsAct w A P S) (e:∀i,i<4→S.h i=h' i):IsAct w A P ⟨S.put,S.key,S.val,S.first,S.cell,h',S.was,S.ver,S.st,S.found,S.won⟩:=by
 unfold IsAct at *;rw[k,e 0 (by omega),e 1 (by omega),e 2 (by omega),e 3 (by omega)]
theorem half_key0 {key:Int}(i:Nat) (hi4:i<4):upd (upd (fun _=>0) 0 (hi key)) 1 (lo key) i=half key 0 i:=by
 obtain rfl|rfl|rfl|rfl:i=0∨i=1∨i=2∨i=3:=by omega
 all_goals simp[upd,half,hi,lo]
theorem half_key {key val:Int}(i:Nat) (hi4:i<4):upd (upd (half key 0) 2 (hi val)) 3 (lo val) i=half key val i:=by
 obtain rfl|rfl|rfl|rfl:i=0∨i=1∨i=2∨i=3:=by omega
 all_goals simp[upd,half]
set_option maxHeartbeats 2000000 in
theorem act_any (h:Sys w P R N T base n c ops fails) (key:Int) (h0:0≤key) (h1:key≤18446744073709551615) :
  Calls Tryz.prog 165 #[.pointer (some ⟨T,24,none⟩),.int .u64 key] w fun e w'=>e = .returned (.pointer (some ⟨w.heap.size,0,none⟩))∧IsAct w' w.heap.size P ⟨false,key,0,line base n key,0,half key 0,0,0,0,false,false⟩∧Below w.heap.size w w'∧w'.heap.size=w.heap.size+1:=by
 have t0:=h.t0;have t1:=h.t1;have t2:=h.t2;have hp:=h.pos;have hro:=h.room;have hsm:=h.small;have hN:n≤262144:=by omega
 have hl:=home_lt key hp;have K:=home_any key n w.drew h0 h1 h.pos hN;have hl4:Aside (((line base n key:Nat):Int)=(base:Int)+4*((home key n:Nat):Int)):=by simp only[Aside,line];omega
 obtain⟨L,hL⟩:∃L:Nat,L=line base n key:=⟨_,rfl⟩
 rw[← hL]at hl4 ⊢;clear hL;generalize home key n=q at K hl hl4;have K3:=fun w=>split_any key w h0 h1
 have hw1:IntKind.i64.wrap (4*(q:Int))=4*(q:Int):=by rw[IntKind.wrap_i64];omega
 have hw2:IntKind.i64.wrap ((base:Int)+4*(q:Int))=(base:Int)+4*(q:Int):=by rw[IntKind.wrap_i64];omega
 obtain⟨w1,hw⟩:∃w1,w1=(w.alloc (.cells #[.pointer (some ⟨P,0,none⟩),.int .i64 ((base:Int)+4*(q:Int)),.int .i64 0,.int .u32 0,.int .u32 0,.int .u32 0,.int .u32 0,.int .u64 0,.int .u32 0,.nilFunc,.bool false] 245)).drew:=⟨_,rfl⟩
 have S1:w1.cell? ⟨T,24,none⟩=some (.pointer (some ⟨P,0,none⟩))∧w1.cell? ⟨T,25,none⟩=some (.int .i64 (base:Int))∧w1.cell? ⟨T,26,none⟩=some (.int .i64 (n:Int)):=by
  rw[hw];exact⟨(h.new _).drew.t0,(h.new _).drew.t1,(h.new _).drew.t2⟩
 go_enter Tryz.func165,Tryz.ntmps165
 go_wp2_with fail
 go_region_held3 (fun u=>u.cell? ⟨T,24,none⟩=some (.pointer (some ⟨P,0,none⟩))∧u.cell? ⟨T,25,none⟩=some (.int .i64 (base:Int))∧u.cell? ⟨T,26,none⟩=some (.int .i64 (n:Int))) (first|assumption|exact⟨t0,t1,t2⟩ | (rw[hw]at S1;exact S1)) (first
  | (go_at_call 162;refine K.mono ?_;clear K;rintro e w2 ⟨rfl,rfl⟩))
 rw[← hw];have k1:IsAct w1 w.heap.size P ⟨false,key,0,L,0,fun _=>0,0,0,0,false,false⟩:=by
  rw[hw];have e:((w.alloc (.cells #[.pointer (some ⟨P,0,none⟩),.int .i64 ((base:Int)+4*(q:Int)),.int .i64 0,.int .u32 0,.int .u32 0,.int .u32 0,.int .u32 0,.int .u64 0,.int .u32 0,.nilFunc,.bool false] 245)).drew).heap[w.heap.size]? = some _:=Go.Deep.blk_alloc_new _ _;unfold IsAct;rw[e];simp only[hl4.out];rfl
 have b1:Below w.heap.size w w1:=by rw[hw];have b:=(Below.refl w.heap.size w).alloc (Nat.le_refl _) (.cells #[.pointer (some ⟨P,0,none⟩),.int .i64 ((base:Int)+4*(q:Int)),.int .i64 0,.int .u32 0,.int .u32 0,.int .u32 0,.int .u32 0,.int .u64 0,.int .u32 0,.nilFunc,.bool false] 245);exact⟨b.os,b.tape,b.output,b.size,b.block⟩
 have s1:Aside (w1.heap.size=w.heap.size+1):=by simp only[Aside];rw[hw];simp
 clear hw S1 t0 t1 t2 hw1 hw2 hl4;obtain⟨A,hA⟩:∃A,A=w.heap.size:=⟨_,rfl⟩
 have hAA:Aside (A=w.heap.size):=hA;rw[← hA]at k1;rw[← hA];have d3:=k1.f3;have g3:=k1.free 3;have k2:IsAct (w1.setCell ⟨A,3,none⟩ (.int .u32 (hi key))) A P _:=k1.seth (i:=0) (by omega) (hi key);have d4:=k2.f4;have g4:=k2.free 4;have k3:IsAct ((w1.setCell ⟨A,3,none⟩ (.int .u32 (hi key))).setCell ⟨A,4,none⟩ (.int .u32 (lo key))) A P _:=k2.seth (i:=1) (by omega) (lo key);clear hA
 go_wp2_with fail
 go_region_with (first
  | (go_at_call 171;refine(K3 _).mono ?_;rintro e w2 ⟨rfl,rfl⟩))
 go_wp2_with fail
 go_ret
 obtain rfl:=hAA.out
 have b2:Below w.heap.size w ((w1.setCell ⟨w.heap.size,3,none⟩ (.int .u32 (hi key))).setCell ⟨w.heap.size,4,none⟩ (.int .u32 (lo key))):=
  b1.trans (((Only.set _ 3 w1 _).trans (Only.set _ 4 _ _)).below b1.size fun i e=>by omega)
 exact⟨rfl,k3.drew.hs half_key0,⟨b2.os,b2.tape,b2.output,b2.size,b2.block⟩,by have:=s1.out;simpa[World.setCell]using this⟩
set_option maxHeartbeats 2000000 in
theorem aget_any (h:Sys w P R N T base n c ops fails) (key:Int) (h0:0≤key) (h1:key≤18446744073709551615) :
  Calls Tryz.prog 145 #[.pointer (some ⟨T,24,none⟩),.int .u64 key] w fun e w'=>e = .returned (.pointer (some ⟨w.heap.size,0,none⟩))∧IsAct w' w.heap.size P (Ac.ofGet (line base n key) key)∧Below w.heap.size w w'∧w'.heap.size=w.heap.size+1:=by
 have hmf:=mkf;have K:=act_any h key h0 h1;obtain⟨A,hA⟩:∃A,A=w.heap.size:=⟨_,rfl⟩
 have hAA:Aside (A=w.heap.size):=hA;rw[← hA]at K ⊢;clear hA;go_enter Tryz.func145,Tryz.ntmps145
 go_wp2_with (first
  | (go_at_call 165;refine K.mono ?_;clear K;rintro e w1 ⟨rfl,k1,b1,s1⟩;have s1A:Aside (w1.heap.size=A+1):=s1;clear s1;have d9:=k1.f9;have g9:=k1.free 9))
 go_ret
 refine⟨rfl,k1.set9 4,b1.trans ((Only.set A 9 w1 _).below (by have:=s1A.out;omega) fun i e=>by omega),by have:=s1A.out;simpa[World.setCell]using this⟩
set_option maxHeartbeats 2000000 in
theorem aput_any (h:Sys w P R N T base n c ops fails) (key val:Int) (h0:0≤key) (h1:key≤18446744073709551615) (h2:0≤val) (h3:val≤18446744073709551615) :
  Calls Tryz.prog 151 #[.pointer (some ⟨T,24,none⟩),.int .u64 key,.int .u64 val] w fun e w'=>e = .returned (.pointer (some ⟨w.heap.size,0,none⟩))∧IsAct w' w.heap.size P (Ac.ofPut (line base n key) key val)∧Below w.heap.size w w'∧w'.heap.size=w.heap.size+1:=by
 have hmf:=mkf;have K:=act_any h key h0 h1;have K3:=fun w=>split_any val w h2 h3
 obtain⟨A,hA⟩:∃A,A=w.heap.size:=⟨_,rfl⟩
 have hAA:Aside (A=w.heap.size):=hA;rw[← hA]at K ⊢;clear hA;go_enter Tryz.func151,Tryz.ntmps151
 go_wp2_with (first
  | (go_at_call 165;refine K.mono ?_;clear K;rintro e w1 ⟨rfl,k1,b1,s1⟩;have s1A:Aside (w1.heap.size=A+1):=s1;clear s1))
 have d5:=k1.f5;have g5:=k1.free 5;have k2:IsAct (w1.setCell ⟨A,5,none⟩ (.int .u32 (hi val))) A P _:=k1.seth (i:=2) (by omega) (hi val);have d6:=k2.f6;have g6:=k2.free 6;have k3:IsAct ((w1.setCell ⟨A,5,none⟩ (.int .u32 (hi val))).setCell ⟨A,6,none⟩ (.int .u32 (lo val))) A P _:=k2.seth (i:=3) (by omega) (lo val);have d9:=k3.f9;have g9:=k3.free 9
 go_region_with (first
  | (go_at_call 171;refine(K3 _).mono ?_;rintro e w2 ⟨rfl,rfl⟩))
 go_wp2_with fail
 go_ret
 have b2:Below A w ((((w1.setCell ⟨A,5,none⟩ (.int .u32 (hi val))).setCell ⟨A,6,none⟩ (.int .u32 (lo val)))).setCell ⟨A,9,none⟩ (nextV A 1)):=
  b1.trans ((((Only.set _ 5 w1 _).trans (Only.set _ 6 _ _)).trans (Only.set _ 9 _ _)).below (by have:=s1A.out;omega) fun i e=>by omega)
 exact⟨rfl,((k3.set9 1).ghost true key val false).drew.hs half_key,⟨b2.os,b2.tape,b2.output,b2.size,b2.block⟩,by have:=s1A.out;simpa[World.setCell]using this⟩
set_option maxHeartbeats 2000000 in
theorem clear_any (h:Sys w P R N T base n c ops fails) :
  Calls Tryz.prog 140 #[.pointer (some ⟨T,24,none⟩)] w fun e w'=>e = .returned (.tuple #[])∧(∃c' o' f',Sys w' P R N T base n c' o' f'∧(∀j,j<n→c' (base+4*j+1)=0)∧∀i,i<base→c' i=c i)∧Moved P R w w':=by
 have t2:=h.t2;have hro:=h.room;have hsm:=h.small;go_enter Tryz.func140,Tryz.ntmps140
 go_wp2_with fail
 go_loopg [9] n (fun g si wr=>∃(k:Nat) (c':Nat→Int),k+g=n∧si = .int .i64 (k:Int)∧(∃o' f',Sys wr P R N T base n c' o' f')∧(∀j,j<k→c' (base+4*j+1)=0)∧(∀i,i<base→c' i=c i)∧Moved P R w wr)
 case atStart=>exact⟨0,c,by omega,rfl,⟨_,_,h⟩,(fun j hj=>absurd hj (by omega)),(fun _ _=>rfl),Moved.refl _ _ _⟩
 case round =>
  obtain⟨k,c',hk,rfl,⟨o,f,H⟩,hz,hs,M⟩:=hrel;have hK:Aside (k+gk=n):=hk;have hZ:Aside (∀j,j<k→c' (base+4*j+1)=0):=hz;have hS:Aside (∀i,i<base→c' i=c i):=hs;clear hk hz h t2 hs;by_cases hkn:k<n
  ·have hlt:(k:Int)<(n:Int):=by omega
   have s0:=H.t0;have s1:=H.t1;obtain⟨L,hL⟩:∃L:Nat,L=base+4*k:=⟨_,rfl⟩
   have hLI:(base:Int)+(k:Int)*4=(L:Int):=by omega
   have hLA:Aside (L=base+4*k):=hL;have hLN:L+4≤N:=by omega
   clear hL;have K:=add_in P R N c' o f wr L 4294967296 (by omega) H.mem;have hu:U64 (upd c' L (IntKind.u64.wrap (c' L+4294967296))):=upd_fit H.fit (by rw[IntKind.wrap_u64];omega) _;have hZ2:Aside (∀j,j<k→upd c' L (IntKind.u64.wrap (c' L+4294967296)) (base+4*j+1)=0):=by
    intro j hj;rw[upd_other _ _ (by have:=hLA.out;omega)];exact hZ.out j hj
   have hS2:Aside (∀i,i<base→upd c' L (IntKind.u64.wrap (c' L+4294967296)) i=c i):=fun i hi=>by
    rw[upd_other _ _ (by have:=hLA.out;omega)];exact hS.out i hi
   generalize upd c' L (IntKind.u64.wrap (c' L+4294967296))=c2 at K hu hZ2 hS2;generalize IntKind.u64.wrap (c' L+4294967296)=z at K;clear hZ hS
   go_wp2_with (first
    | (go_at_call 161;refine K.mono ?_;clear K;rintro e w1 ⟨rfl,m1,b1⟩))
   have H1:=H.moved m1 b1 hu;have M1:=M.trans b1;clear m1 b1 H M s0 s1 hu;obtain⟨go,hgo⟩:∃go,go=gk:=⟨_,rfl⟩
   rw[← hgo]at hK;go_loopg [4] 3 (fun g si wr=>∃(i:Nat) (c3:Nat→Int),i+g=4∧si = .int .i64 (i:Int)∧1≤i∧(∃o' f',Sys wr P R N T base n c3 o' f')∧(∀j,j<k→c3 (base+4*j+1)=0)∧(2≤i→c3 (L+1)=0)∧(∀i,i<base→c3 i=c i)∧Moved P R w wr)
   case atStart=>exact⟨1,c2,by omega,rfl,by omega,⟨_,_,H1⟩,hZ2.out,(fun q=>absurd q (by omega)),hS2.out,M1⟩
   case round =>
    clear H1 hZ2 M1 hS2;obtain⟨i,c3,hi,rfl,hi1,⟨o3,f3,H3⟩,hz3,hzi,hs3,M3⟩:=hrel;have hS3:Aside (∀i,i<base→c3 i=c i):=hs3;have hI:Aside (i+gk=4):=hi;have hZ3:Aside (∀j,j<k→c3 (base+4*j+1)=0):=hz3;have hZi:Aside (2≤i→c3 (L+1)=0):=hzi;clear hi hz3 hzi hs3;by_cases hi4:i<4
    ·have hi4':(i:Int)<4:=by omega
     have s0:=H3.t0;have K:=store_in P R N c3 o3 f3 wr (L+i) 0 (by omega) H3.mem;have hw1:IntKind.i64.wrap ((L:Int)+(i:Int))=(L:Int)+(i:Int):=by rw[IntKind.wrap_i64];omega
     have hu:U64 (upd c3 (L+i) 0):=upd_fit H3.fit (by omega) _;have hA:Aside ((∀j,j<k→upd c3 (L+i) 0 (base+4*j+1)=0)∧(2≤i+1→upd c3 (L+i) 0 (L+1)=0)):=by
      refine⟨fun j hj=>?_,fun _=>?_⟩
      ·rw[upd_other _ _ (by have:=hLA.out;omega)];exact hZ3.out j hj
      ·by_cases d:i=1
       ·rw[d,upd_same]
       ·rw[upd_other _ _ (by omega)];exact hZi.out (by omega)
     have hA3:Aside (∀j,j<base→upd c3 (L+i) 0 j=c j):=fun j hj=>by
      rw[upd_other _ _ (by have:=hLA.out;omega)];exact hS3.out j hj
     go_wp2_with (first
      | (go_at_call 160;refine K.mono ?_;clear K;rintro e w1 ⟨rfl,m1,b1⟩))
     go_roundg (gk-1)
     case measure=>have:=hI.out;omega
     case rel=>exact⟨i+1,_,(by have:=hI.out;omega),rfl,by omega,⟨_,_,H3.moved m1 b1 hu⟩,hA.out.1,hA.out.2,hA3.out,M3.trans b1⟩
    ·obtain rfl:i=4:=by have:=hI.out;omega
     go_wp2_with fail
     go_roundg (go-1)
     case measure=>have:=hK.out;omega
     case rel =>
      refine⟨k+1,c3,(by have:=hK.out;omega),rfl,⟨_,_,H3⟩,fun j hj=>?_,hS3.out,M3⟩;by_cases d:j=k
      ·rw[d,← hLA.out];exact hZi.out (by omega)
      ·exact hZ3.out j (by omega)
  ·obtain rfl:k=n:=by have:=hK.out;omega
   go_wp2_with fail
   go_end0
   exact⟨rfl,⟨_,_,_,H,hZ.out,hS.out⟩,M⟩
end
end Go.Proofs.YtnnmdkaoiofabaaGreat.Ch
