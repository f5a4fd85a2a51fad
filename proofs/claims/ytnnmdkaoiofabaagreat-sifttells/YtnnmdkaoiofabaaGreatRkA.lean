/-
  Maps from numbers to numbers: what is looked up, laid and struck, as a function of the key. Heaps of pairs (a number, its key): no program. Slices of pairs of numbers that lie in a block of their own. The queue in memory: its head, its row of pairs, its map of places. Two pairs change places: the row and the map.
-/
import Derived.Test.YtnnmdkaoiofabaaGreatProg
import Derived.WalkKit
import Derived.Handy
import Derived.MapKept
import Derived.Carry
import Derived.Deep.OwnRows
import Derived.Deep.LoopGhost
import Derived.Deep.RegionWith
import Derived.BigRegion
import Derived.Deep.AppendLies
import Derived.Deep.AppendSrc
import Derived.Maps.AppendAt
namespace Go.Proofs.YtnnmdkaoiofabaaGreat.Rk
open Go Go.RowKit
def look : List (Int×Int)→Int→Option Int
 | [],_=>none
 | p :: l,k=>if p.1=k then some p.2 else look l k
theorem look_none {k:Int}:∀{l:List (Int×Int)},look l k=none↔∀p∈l,p.1≠k
 | []=>by simp[look]
 | p :: l=>by
  have:=look_none (k:=k) (l:=l);by_cases h:p.1=k
  ·simp[look,h]
  ·simp[look,h,this]
theorem look_append (k:Int) (v:Int) (k':Int):∀(l:List (Int×Int)),look l k=none→look (l ++ [(k,v)]) k'=if k'=k then some v else look l k'
 | [],_=>by
  by_cases h:k'=k
  ·simp[look,h]
  ·have h':¬k=k':=fun e=>h e.symm
   simp[look,h,h']
 | p :: l,h=>by
  have hp:p.1≠k:=look_none.1 h p (by simp);have hl:look l k=none:=look_none.2 fun q hq=>look_none.1 h q (by simp[hq])
  have:=look_append k v k' l hl;by_cases e:p.1=k'
  ·have:k'≠k:=fun x=>hp (e.trans x)
   simp[look,e,this]
  ·simp[look,e,this]
theorem look_set (k v v0 k':Int):∀(l:List (Int×Int)) (j:Nat),(l.map (·.1)).Nodup→l[j]? = some (k,v0)→look (l.set j (k,v)) k'=if k'=k then some v else look l k'
 | [],j,_,h=>by simp at h
 | p :: l,0,_,h=>by
  obtain rfl:p=(k,v0):=by simpa using h
  by_cases e:k'=k
  ·simp[look,e]
  ·have e':¬k=k':=fun x=>e x.symm
   simp[look,e,e']
 | p :: l,j+1,hn,h=>by
  have h':l[j]? = some (k,v0):=by simpa using h
  have hn':(l.map (·.1)).Nodup:=(List.nodup_cons.1 (by simpa using hn)).2;have hp:p.1≠k:=fun e=>(List.nodup_cons.1 (show (p.1 :: l.map (·.1)).Nodup by simpa using hn)).1 (e ▸ List.mem_map.2 ⟨_,List.mem_of_getElem? h',rfl⟩)
  have:=look_set k v v0 k' l j hn' h';by_cases e:p.1=k'
  ·have:k'≠k:=fun x=>hp (e.trans x)
   simp[look,e,this]
  ·simp[look,e,this]
theorem look_erase (k v0 k':Int):∀(l:List (Int×Int)) (j:Nat),(l.map (·.1)).Nodup→l[j]? = some (k,v0)→look (l.eraseIdx j) k'=if k'=k then none else look l k'
 | [],j,_,h=>by simp at h
 | p :: l,0,hn,h=>by
  obtain rfl:p=(k,v0):=by simpa using h
  have hk:=(List.nodup_cons.1 (show (k :: l.map (·.1)).Nodup by simpa using hn)).1;by_cases e:k'=k
  ·subst e;simp only[List.eraseIdx_cons_zero,if_true];exact look_none.2 fun q hq e=>hk (List.mem_map.2 ⟨q,hq,e⟩)
  ·have e':¬k=k':=fun x=>e x.symm
   simp[look,e,e']
 | p :: l,j+1,hn,h=>by
  have h':l[j]? = some (k,v0):=by simpa using h
  have hn':(l.map (·.1)).Nodup:=(List.nodup_cons.1 (by simpa using hn)).2;have hp:p.1≠k:=fun e=>(List.nodup_cons.1 (show (p.1 :: l.map (·.1)).Nodup by simpa using hn)).1 (e ▸ List.mem_map.2 ⟨_,List.mem_of_getElem? h',rfl⟩)
  have:=look_erase k v0 k' l j hn' h';by_cases e:p.1=k'
  ·have:k'≠k:=fun x=>hp (e.trans x)
   simp[look,e,this]
  ·simp[look,e,this]
def pairV (p:Int×Int):Value×Value:=(.int .i64 p.1,.int .i64 p.2)
theorem find_spec (k:Int):∀(es:List MapEntry) (l:List (Int×Int)) (i:Nat),es.map (fun e=>(e.key,e.val))=l.map pairV →
  (Instr.findNow (.int .i64) (.int .i64 k) es i=some none∧look l k=none)∨∃(j:Nat) (v:Int),Instr.findNow (.int .i64) (.int .i64 k) es i=some (some (i+j,.int .i64 v))∧l[j]? = some (k,v)∧look l k=some v
 | [],l,i,h=>by
  cases l with
  | nil=>exact .inl ⟨rfl,rfl⟩
  | cons p l=>simp at h
 | e :: es,l,i,h=>by
  cases l with
  | nil=>simp at h
  | cons p l =>
   simp only[List.map_cons,List.cons.injEq,pairV,Prod.mk.injEq]at h;obtain⟨⟨h1,h2⟩,h3⟩:=h;by_cases c:p.1=k
   ·refine .inr ⟨0,p.2,?_,by simp[← c],by simp[look,c]⟩;simp[Instr.findNow,h1,h2,Instr.sameNow,c]
   ·have c':(k == p.1)=false:=by
     rw[beq_eq_false_iff_ne];exact fun x=>c x.symm
    rcases find_spec k es l (i+1) h3 with ⟨a,b⟩|⟨j,v,a,b,d⟩
    ·exact .inl ⟨by simp[Instr.findNow,h1,Instr.sameNow,c',a],by simp[look,c,b]⟩
    ·refine .inr ⟨j+1,v,?_,by simpa using b,by simp[look,c,d]⟩;simp[Instr.findNow,h1,Instr.sameNow,c',a];omega
structure Turned (b:Nat) (w w':World):Prop where
 os:w'.os=w.os
 tape:w'.tape=w.tape
 output:w'.output=w.output
 size:w'.heap.size=w.heap.size
 block:∀k,k≠b→w'.heap[k]? = w.heap[k]?
theorem heap_turn {w:World}{b:Nat}{o':Obj}:Turned b w { w with heap:=w.heap.setIfInBounds b o' }:=by
 refine⟨rfl,rfl,rfl,by simp,fun i hne=>?_⟩;simp[Array.getElem?_setIfInBounds_ne (fun e=>hne e.symm)]
theorem heap_now {w:World}{b:Nat}{o o':Obj}(hb:w.heap[b]? = some o):({ w with heap:=w.heap.setIfInBounds b o' }:World).heap[b]? = some o':=by
 have hlt:b<w.heap.size:=(Array.getElem?_eq_some_iff.1 hb).1;simp[hlt]
def IsMap (w:World) (b:Nat) (P:Int→Option Int):Prop:=
 ∃(es:Array MapEntry) (clock:Nat) (l:List (Int×Int)),w.heap[b]? = some (.map es clock)∧es.toList.map (fun e=>(e.key,e.val))=l.map pairV∧(l.map (·.1)).Nodup∧∀k,look l k=P k
theorem IsMap.lt {w:World}{b:Nat}{P:Int→Option Int}(h:IsMap w b P):b<w.heap.size:=by
 obtain⟨es,clock,l,h,_⟩:=h;exact(Array.getElem?_eq_some_iff.1 h).1
theorem IsMap.same {w u:World}{b:Nat}{P:Int→Option Int}(h:IsMap w b P) (e:u.heap[b]? = w.heap[b]?):IsMap u b P:=by
 obtain⟨es,clock,l,h,k⟩:=h;exact⟨es,clock,l,e.trans h,k⟩
theorem IsMap.fresh (w:World):IsMap (w.alloc (.map #[] 0)) w.heap.size (fun _=>none):=⟨#[],0,[],(MapKept.heap_alloc w _).1,rfl,by simp,fun _=>rfl⟩
def at1 {α:Type}(P:Int→α) (k:Int) (v:α):Int→α:=fun i=>if i=k then v else P i
theorem isKey (k:Int):MapKept.IsKey (.int .i64) (.int .i64 k):=by simp[MapKept.IsKey]
theorem zero3 (w:World):(zeroValue 3).run Tryz.prog w = .ok (.int .i64 0) w:=by kernel_rfl
theorem map_look {w:World}{b:Nat}{P:Int→Option Int}(h:IsMap w b P) (k:Int) :
  (Instr.lookup 156 (.map (some b)) (.int .i64 k) true).run Tryz.prog w = .ok (.tuple #[.int .i64 ((P k).getD 0),.bool (P k).isSome]) w:=by
 obtain⟨es,clock,l,hb,h1,h2,h3⟩:=h;have hc:=MapKept.run_checkKey (w:=w) Tryz.underlying3 (isKey k) es.isEmpty 9999;rcases find_spec k es.toList l 0 h1 with ⟨hf,hn⟩|⟨j,v,hf,hj,hl⟩
 ·have hf':=MapKept.run_findKey (w:=w) Tryz.underlying3 hf;rw[h3 k]at hn;simp only[Instr.lookup,Sem.run_bind,run_underlying Tryz.underlying156,Result.andThen_ok,MapKept.run_getObj_map hb,Sem.run_pure,hc,hf',zero3,hn];rfl
 ·have hf':=MapKept.run_findKey (w:=w) Tryz.underlying3 hf;rw[h3 k]at hl;simp only[Instr.lookup,Sem.run_bind,run_underlying Tryz.underlying156,Result.andThen_ok,MapKept.run_getObj_map hb,Sem.run_pure,hc,hf',hl];rfl
theorem map_look_nil (w:World) (k:Int) :
  (Instr.lookup 156 (.map none) (.int .i64 k) true).run Tryz.prog w = .ok (.tuple #[.int .i64 0,.bool false]) w:=by
 have hc:=MapKept.run_checkKey (w:=w) Tryz.underlying3 (isKey k) (#[]:Array MapEntry).isEmpty 9999;have hf':=MapKept.run_findKey (w:=w) Tryz.underlying3 (show Instr.findNow (.int .i64) (.int .i64 k) [] 0=some none from rfl);simp only[Instr.lookup,Sem.run_bind,run_underlying Tryz.underlying156,Result.andThen_ok,Sem.run_pure,hc,hf',zero3];rfl
theorem map_put {w:World}{b:Nat}{P:Int→Option Int}(h:IsMap w b P) (k v:Int) :
  ∃w',(Instr.mapUpdate 156 (.map (some b)) (.int .i64 k) (.int .i64 v)).run Tryz.prog w = .ok () w'∧IsMap w' b (at1 P k (some v))∧Turned b w w':=by
 obtain⟨es,clock,l,hb,h1,h2,h3⟩:=h;have hc:=MapKept.run_checkKey (w:=w) Tryz.underlying3 (isKey k) false 9999;rcases find_spec k es.toList l 0 h1 with ⟨hf,hn⟩|⟨j,u,hf,hj,hl⟩
 ·have hf':=MapKept.run_findKey (w:=w) Tryz.underlying3 hf;refine⟨{ w with heap:=w.heap.setIfInBounds b (.map (es.push { key:=.int .i64 k,val:=.int .i64 v,born:=clock }) (clock+1)) },?_,⟨_,_,l ++ [(k,v)],heap_now hb,?_,?_,?_⟩,heap_turn⟩
  ·simp only[Instr.mapUpdate,Sem.run_bind,run_underlying Tryz.underlying156,Result.andThen_ok,MapKept.run_getObj_map hb,hc,hf'];exact MapKept.run_setObj_map _ hb
  ·simp[h1,pairV]
  ·rw[List.map_append,List.nodup_append];refine⟨h2,by simp,fun a ha c hc'=>?_⟩;simp at hc';subst hc';obtain⟨p,hp,rfl⟩:=List.mem_map.1 ha;exact look_none.1 hn p hp
  ·intro k';rw[look_append k v k' l hn,h3 k'];rfl
 ·have hf':=MapKept.run_findKey (w:=w) Tryz.underlying3 hf;rw[Nat.zero_add]at hf';have hjk:(es[j]?).map (fun e=>(e.key,e.val))=some (pairV (k,u)):=by
   have h4:=congrArg (·[j]?) h1;simp only[List.getElem?_map,hj,Option.map_some]at h4;simpa using h4
  obtain⟨e,he,hek⟩:=Option.map_eq_some_iff.1 hjk;simp only[pairV,Prod.mk.injEq]at hek;have hks:=MapKept.run_keyThatStays (P:=Tryz.prog) (w:=w) (isKey k);refine⟨{ w with heap:=w.heap.setIfInBounds b (.map (es.modify j fun e=>{ e with key:=.int .i64 k,val:=.int .i64 v }) clock) },?_,⟨_,_,l.set j (k,v),heap_now hb,?_,?_,?_⟩,heap_turn⟩
  ·simp only[Instr.mapUpdate,Sem.run_bind,run_underlying Tryz.underlying156,Result.andThen_ok,MapKept.run_getObj_map hb,hc,hf',he,Option.map_some,Option.getD_some,hek.1,hks];exact MapKept.run_setObj_map _ hb
  ·rw[Array.toList_modify];apply List.ext_getElem?;intro i;have h4:=congrArg (·[i]?) h1;simp only[List.getElem?_map]at h4;simp only[List.getElem?_map,List.getElem?_modify,List.getElem?_set];by_cases e2:j=i
   ·subst e2;have hlt:j<l.length:=(List.getElem?_eq_some_iff.1 hj).1;have he2:es.toList[j]? = some e:=by simpa using he
    simp[hlt,he2,pairV]
   ·simp only[e2,if_false];rw[← h4];simp
  ·have:(l.set j (k,v)).map (·.1)=l.map (·.1):=by
    apply List.ext_getElem?;intro i;simp only[List.getElem?_map,List.getElem?_set];by_cases e2:j=i
    ·subst e2;have hlt:j<l.length:=(List.getElem?_eq_some_iff.1 hj).1;have hj':l[j]=(k,u):=Option.some.inj ((List.getElem?_eq_getElem hlt).symm.trans hj);simp[hlt,hj']
    ·simp[e2]
   rw[this];exact h2
  ·intro k';rw[look_set k v u k' l j h2 hj,h3 k'];rfl
theorem map_eraseIdx' {α β:Type}(f:α→β):∀(l:List α) (j:Nat),(l.eraseIdx j).map f=(l.map f).eraseIdx j
 | [],j=>by simp
 | x :: l,0=>by simp
 | x :: l,j+1=>by simp[map_eraseIdx' f l j]
theorem map_del {w:World}{b:Nat}{P:Int→Option Int}(h:IsMap w b P) (k:Int) :
  ∃w',(∀ty:TypeId,(Builtin.delete_ #[156,3] ty #[.map (some b),.int .i64 k]).run Tryz.prog w = .ok (.tuple #[]) w')∧IsMap w' b (at1 P k none)∧Turned b w w':=by
 obtain⟨es,clock,l,hb,h1,h2,h3⟩:=h;have hc:=MapKept.run_checkKey (w:=w) Tryz.underlying3 (isKey k) es.isEmpty 9999;rcases find_spec k es.toList l 0 h1 with ⟨hf,hn⟩|⟨j,u,hf,hj,hl⟩
 ·have hf':=MapKept.run_findKey (w:=w) Tryz.underlying3 hf;refine⟨{ w with heap:=w.heap.setIfInBounds b (.map es clock) },?_,⟨_,_,l,heap_now hb,h1,h2,?_⟩,heap_turn⟩
  ·intro ty;simp only[Builtin.delete_,List.getElem?_toArray,List.getElem?_cons_zero,List.getElem?_cons_succ,Sem.run_bind,run_underlying Tryz.underlying156,Result.andThen_ok,MapKept.run_getObj_map hb,hc,hf',MapKept.run_setObj_map _ hb];rfl
  ·intro k';by_cases e:k'=k
   ·subst e;simp[at1,hn]
   ·simp[at1,e,h3]
 ·have hf':=MapKept.run_findKey (w:=w) Tryz.underlying3 hf;rw[Nat.zero_add]at hf';have hjl:j<es.size:=by
   have h4:=congrArg List.length h1;simp only[List.length_map]at h4;rw[← Array.length_toList,h4];exact(List.getElem?_eq_some_iff.1 hj).1
  have her:(es.eraseIdxIfInBounds j).toList=es.toList.eraseIdx j:=by
   simp[Array.eraseIdxIfInBounds,hjl]
  refine⟨{ w with heap:=w.heap.setIfInBounds b (.map (es.eraseIdxIfInBounds j) clock) },?_,⟨_,_,l.eraseIdx j,heap_now hb,?_,?_,?_⟩,heap_turn⟩
  ·intro ty;simp only[Builtin.delete_,List.getElem?_toArray,List.getElem?_cons_zero,List.getElem?_cons_succ,Sem.run_bind,run_underlying Tryz.underlying156,Result.andThen_ok,MapKept.run_getObj_map hb,hc,hf',MapKept.run_setObj_map _ hb];rfl
  ·rw[her,map_eraseIdx',map_eraseIdx',h1]
  ·rw[map_eraseIdx'];exact h2.sublist (List.eraseIdx_sublist _ _)
  ·intro k';rw[look_erase k u k' l j h2 hj,h3 k'];rfl
end Go.Proofs.YtnnmdkaoiofabaaGreat.Rk
namespace Go.Proofs.YtnnmdkaoiofabaaGreat.Rk
def bet (a b:Int×Int):Bool:=if a.2=b.2 then decide (a.1<b.1)else decide (b.2<a.2)
theorem bet_iff {a b:Int×Int}:bet a b=true↔b.2<a.2∨(a.2=b.2∧a.1<b.1):=by
 unfold bet;by_cases h:a.2=b.2
 ·simp[h]
 ·simp[h]
theorem bet_not {a b:Int×Int}:bet a b=false↔a.2<b.2∨(a.2=b.2∧b.1≤a.1):=by
 unfold bet;by_cases h:a.2=b.2
 ·simp[h]
 ·simp[h];omega
theorem bet_asymm {a b:Int×Int}(h:bet a b=true):bet b a=false:=by rw[bet_iff]at h;rw[bet_not];omega
theorem bet_le_trans {a b c:Int×Int}(h:bet a b=false) (k:bet b c=false):bet a c=false:=by rw[bet_not]at *;omega
theorem bet_le_lt {a b c:Int×Int}(h:bet a b=false) (k:bet c b=true):bet a c=false:=by rw[bet_not]at *;rw[bet_iff]at k;omega
theorem bet_self (a:Int×Int):bet a a=false:=by rw[bet_not];omega
def swp (I:Nat→Int×Int) (i j:Nat):Nat→Int×Int:=fun k=>if k=i then I j else if k=j then I i else I k
theorem swp_l (I:Nat→Int×Int) (i j:Nat):swp I i j i=I j:=by simp[swp]
theorem swp_r (I:Nat→Int×Int) (i j:Nat):swp I i j j=I i:=by
 by_cases h:j=i
 ·subst h;simp[swp]
 ·simp[swp,h]
theorem swp_o (I:Nat→Int×Int){i j k:Nat}(h:k≠i) (h':k≠j):swp I i j k=I k:=by simp[swp,h,h']
def par (k:Nat):Nat:=(k-1) / 2
def Heap (I:Nat→Int×Int) (n:Nat):Prop:=∀k,0<k→k<n→bet (I k) (I (par k))=false
def UpPre (I:Nat→Int×Int) (n j:Nat):Prop:=
 (∀k,0<k→k<n→k≠j→bet (I k) (I (par k))=false)∧(∀c,0<c→c<n→par c=j→0<j→bet (I c) (I (par j))=false)
def DnPre (I:Nat→Int×Int) (n i:Nat):Prop:=
 (∀k,0<k→k<n→k≠i→par k≠i→bet (I k) (I (par k))=false)∧(∀c,0<c→c<n→par c=i→0<i→bet (I c) (I (par i))=false)
theorem Heap.top {I:Nat→Int×Int}{n:Nat}(h:Heap I n):∀k,k<n→bet (I k) (I 0)=false:=by
 intro k;induction k using Nat.strongRecOn with
 | _ k ih =>
  intro hk;by_cases h0:k=0
  ·subst h0;exact bet_self _
  ·exact bet_le_trans (h k (by omega) hk) (ih (par k) (by unfold par;omega) (by unfold par;omega))
theorem UpPre.stop0 {I:Nat→Int×Int}{n:Nat}(h:UpPre I n 0):Heap I n:=fun k h0 hk=>h.1 k h0 hk (by omega)
theorem UpPre.stop {I:Nat→Int×Int}{n j:Nat}(h:UpPre I n j) (hj:bet (I j) (I (par j))=false):Heap I n:=fun k h0 hk=>by
 by_cases e:k=j
 ·subst e;exact hj
 ·exact h.1 k h0 hk e
theorem UpPre.step {I:Nat→Int×Int}{n j:Nat}(h:UpPre I n j) (h0:0<j) (hn:j<n) (hb:bet (I j) (I (par j))=true):UpPre (swp I (par j) j) n (par j):=by
 have hpj:par j≠j:=by unfold par;omega
 refine⟨fun k k0 kn hk=>?_,fun c c0 cn hc hp=>?_⟩
 ·by_cases e:k=j
  ·subst e;rw[swp_r,swp_l];exact bet_asymm hb
  ·rw[swp_o I hk e];by_cases e1:par k=par j
   ·rw[e1,swp_l];have:=h.1 k k0 kn e;rw[e1]at this;exact bet_le_lt this hb
   ·by_cases e2:par k=j
    ·rw[e2,swp_r];exact h.2 k k0 kn e2 h0
    ·rw[swp_o I e1 e2];exact h.1 k k0 kn e
 ·have hpp:par (par j)≠par j:=by unfold par at *;omega
  have hpp2:par (par j)≠j:=by unfold par at *;omega
  rw[swp_o I hpp hpp2];have h1:=h.1 (par j) hp (by unfold par;omega) hpj;by_cases e:c=j
  ·subst e;rw[swp_r];exact h1
  ·by_cases e2:c=par j
   ·subst e2;unfold par at *;omega
   ·rw[swp_o I e2 e];have:=h.1 c c0 cn e;rw[hc]at this;exact bet_le_trans this h1
theorem DnPre.step {I:Nat→Int×Int}{n i j:Nat}(h:DnPre I n i) (hj:j=2*i+1∨j=2*i+2) (hn:j<n) (hb:bet (I j) (I i)=true)
  (hs:∀s,0<s→s<n→par s=i→bet (I s) (I j)=false):DnPre (swp I i j) n j∧bet (swp I i j j) (swp I i j (par j))=false:=by
 have hpj:par j=i:=by unfold par;omega
 have hij:i≠j:=by omega
 refine⟨⟨fun k k0 kn hk hkp=>?_,fun c c0 cn hc _=>?_⟩,?_⟩
 ·by_cases e:k=i
  ·subst e;rw[swp_l,swp_o I (by unfold par;omega) (by unfold par;omega)];exact h.2 j (by omega) hn hpj k0
  ·rw[swp_o I e hk];by_cases e2:par k=i
   ·rw[e2,swp_l];exact hs k k0 kn e2
   ·rw[swp_o I e2 hkp];exact h.1 k k0 kn e e2
 ·rw[hpj,swp_l];have hci:c≠i:=by unfold par at hc;omega
  have hcj:c≠j:=by unfold par at hc;omega
  rw[swp_o I hci hcj];have:=h.1 c c0 cn hci (by omega);rw[hc]at this;exact this
 ·rw[hpj,swp_l,swp_r];exact bet_asymm hb
theorem DnPre.stop {I:Nat→Int×Int}{n i:Nat}(h:DnPre I n i) (hs:∀s,0<s→s<n→par s=i→bet (I s) (I i)=false):UpPre I n i:=
 ⟨fun k k0 kn hk=>by
  by_cases e:par k=i
  ·rw[e];exact hs k k0 kn e
  ·exact h.1 k k0 kn hk e,h.2⟩
theorem Heap.dn {I:Nat→Int×Int}{n i:Nat}(h:Heap I n) (J:Nat→Int×Int) (hJ:∀k,k<n→k≠i→J k=I k) (hi:i<n):DnPre J n i:=by
 refine⟨fun k k0 kn hk hkp=>?_,fun c c0 cn hc hi0=>?_⟩
 ·rw[hJ k kn hk,hJ (par k) (by unfold par;omega) hkp];exact h k k0 kn
 ·have hpi:par i≠i:=by unfold par;omega
  have hci:c≠i:=by unfold par at hc;omega
  rw[hJ c cn hci,hJ (par i) (by unfold par;omega) hpi];have h1:=h c c0 cn;rw[hc]at h1;exact bet_le_trans h1 (h i hi0 hi)
theorem Heap.less {I:Nat→Int×Int}{n m:Nat}(h:Heap I n) (hm:m≤n):Heap I m:=fun k k0 kn=>h k k0 (by omega)
theorem Heap.push {I J:Nat→Int×Int}{n:Nat}(h:Heap I n) (hJ:∀k,k<n→J k=I k):UpPre J (n+1) n:=by
 refine⟨fun k k0 kn hk=>?_,fun c c0 cn hc _=>by unfold par at hc;omega⟩;rw[hJ k (by omega),hJ (par k) (by unfold par;omega)];exact h k k0 (by omega)
def Same (n:Nat) (I J:Nat→Int×Int):Prop:=∀x,(∃i,i<n∧J i=x)↔(∃i,i<n∧I i=x)
theorem Same.refl (n:Nat) (I:Nat→Int×Int):Same n I I:=fun _=>Iff.rfl
theorem Same.trans {n:Nat}{I J K:Nat→Int×Int}(h:Same n I J) (k:Same n J K):Same n I K:=fun x=>(k x).trans (h x)
theorem Same.swapped {n:Nat}{I:Nat→Int×Int}{i j:Nat}(hi:i<n) (hj:j<n):Same n I (swp I i j):=by
 intro x;constructor
 ·rintro⟨k,hk,rfl⟩;by_cases e:k=i
  ·exact⟨j,hj,by rw[e,swp_l]⟩
  ·by_cases e2:k=j
   ·exact⟨i,hi,by rw[e2,swp_r]⟩
   ·exact⟨k,hk,by rw[swp_o I e e2]⟩
 ·rintro⟨k,hk,rfl⟩;by_cases e:k=i
  ·exact⟨j,hj,by rw[e,swp_r]⟩
  ·by_cases e2:k=j
   ·exact⟨i,hi,by rw[e2,swp_l]⟩
   ·exact⟨k,hk,by rw[swp_o I e e2]⟩
def Ids (n:Nat) (I:Nat→Int×Int):Prop:=∀i j,i<n→j<n→(I i).1=(I j).1→i=j
theorem Ids.swapped {n:Nat}{I:Nat→Int×Int}(h:Ids n I){i j:Nat}(hi:i<n) (hj:j<n):Ids n (swp I i j):=by
 have key:∀a,a<n→∃a',a'<n∧swp I i j a=I a'∧(a'=if a=i then j else if a=j then i else a):=by
  intro a ha;by_cases e:a=i
  ·exact⟨j,hj,by rw[e,swp_l],by simp[e]⟩
  ·by_cases e2:a=j
   ·exact⟨i,hi,by rw[e2,swp_r],by subst e2;simp[e]⟩
   ·exact⟨a,ha,by rw[swp_o I e e2],by simp[e,e2]⟩
 intro a b ha hb e;obtain⟨a',ha',ea,fa⟩:=key a ha;obtain⟨b',hb',eb,fb⟩:=key b hb;rw[ea,eb]at e;have:=h a' b' ha' hb' e;subst this;rw[fa]at fb;split at fb <;> split at fb <;> (try split at fb) <;> (try split at fb) <;> omega
def Tells (n:Nat) (I:Nat→Int×Int) (K:Int→Option Int):Prop:=∀id key,K id=some key↔∃i,i<n∧I i=(id,key)
end Go.Proofs.YtnnmdkaoiofabaaGreat.Rk
namespace Go.Proofs.YtnnmdkaoiofabaaGreat.Rk
open Go Go.RowKit
def PairsAt (w:World) (g n cap:Nat) (I:Nat→Int×Int):Prop:=
 ∃cur:Array Value,w.heap[g]? = some (.cells cur 101 (0,0))∧n≤cap∧cap≤maxLen∧cur.size=cap*2∧∀i,i<n→cur[i*2]? = some (.int .i64 (I i).1)∧cur[i*2+1]? = some (.int .i64 (I i).2)
def setP (I:Nat→Int×Int) (k:Nat) (x:Int×Int):Nat→Int×Int:=fun i=>if i=k then x else I i
theorem setP_same (I:Nat→Int×Int) (k:Nat) (x:Int×Int):setP I k x k=x:=by simp[setP]
theorem setP_other (I:Nat→Int×Int){k i:Nat}(x:Int×Int) (h:i≠k):setP I k x i=I i:=by simp[setP,h]
namespace PairsAt
variable {w w':World}{g n cap:Nat}{I J:Nat→Int×Int}
theorem lt (h:PairsAt w g n cap I):g<w.heap.size:=by
 obtain⟨cur,h,_⟩:=h;exact(Array.getElem?_eq_some_iff.1 h).1
theorem cell0 (h:PairsAt w g n cap I){i:Nat}(hi:i<n):w.cell? ⟨g,i*2,none⟩=some (.int .i64 (I i).1):=by
 obtain⟨cur,hb,_,_,_,hc⟩:=h;simp[World.cell?,hb,(hc i hi).1]
theorem cell1 (h:PairsAt w g n cap I){i:Nat}(hi:i<n):w.cell? ⟨g,i*2+1,none⟩=some (.int .i64 (I i).2):=by
 obtain⟨cur,hb,_,_,_,hc⟩:=h;simp[World.cell?,hb,(hc i hi).2]
theorem frozen (h:PairsAt w g n cap I) (i:Nat):w.frozen? ⟨g,i,none⟩=false:=by
 obtain⟨cur,hb,_⟩:=h;simp[World.frozen?,hb]
theorem of_block (h:PairsAt w g n cap I) (e:w'.heap[g]? = w.heap[g]?):PairsAt w' g n cap I:=by
 obtain⟨cur,hb,k⟩:=h;exact⟨cur,e.trans hb,k⟩
theorem congr (h:PairsAt w g n cap I) (e:∀i,i<n→I i=J i):PairsAt w g n cap J:=by
 obtain⟨cur,hb,h1,h2,h3,h4⟩:=h;exact⟨cur,hb,h1,h2,h3,fun i hi=>by rw[← e i hi];exact h4 i hi⟩
theorem less (h:PairsAt w g n cap I){m:Nat}(hm:m≤n):PairsAt w g m cap I:=by
 obtain⟨cur,hb,h1,h2,h3,h4⟩:=h;exact⟨cur,hb,by omega,h2,h3,fun i hi=>h4 i (by omega)⟩
theorem cap_le (h:PairsAt w g n cap I):n≤cap∧cap≤maxLen:=by
 obtain⟨cur,hb,h1,h2,h3,h4⟩:=h;exact⟨h1,h2⟩
theorem set (h:PairsAt w g n cap I){k:Nat}(hk:k<n) (x y:Int) :
  PairsAt ((w.setCell ⟨g,k*2,none⟩ (.int .i64 x)).setCell ⟨g,k*2+1,none⟩ (.int .i64 y)) g n cap (setP I k (x,y)):=by
 obtain⟨cur,hb,h1,h2,h3,h4⟩:=h;refine⟨(cur.setIfInBounds (k*2) (.int .i64 x)).setIfInBounds (k*2+1) (.int .i64 y),?_,h1,h2,by simp[h3],fun i hi=>?_⟩
 ·simp[World.setCell,Array.getElem?_modify,hb]
 ·by_cases e:i=k
  ·subst e;rw[setP_same,Array.getElem?_setIfInBounds_ne (by omega)];constructor
   ·rw[Array.getElem?_setIfInBounds_self_of_lt (by omega)]
   ·rw[Array.getElem?_setIfInBounds_self_of_lt (by simp;omega)]
  ·rw[setP_other _ _ e,Array.getElem?_setIfInBounds_ne (by omega),Array.getElem?_setIfInBounds_ne (by omega),Array.getElem?_setIfInBounds_ne (by omega),Array.getElem?_setIfInBounds_ne (by omega)];exact h4 i hi
end PairsAt
def pairsL (n:Nat) (I:Nat→Int×Int):List Value:=(List.range n).flatMap fun i=>[Value.int .i64 (I i).1,Value.int .i64 (I i).2]
theorem pairsL_succ (n:Nat) (I:Nat→Int×Int):pairsL (n+1) I=pairsL n I ++ [.int .i64 (I n).1,.int .i64 (I n).2]:=by simp[pairsL,List.range_succ]
theorem pairsL_length (n:Nat) (I:Nat→Int×Int):(pairsL n I).length=n*2:=by
 induction n with
 | zero=>rfl
 | succ n ih=>rw[pairsL_succ,List.length_append,ih];simp;omega
theorem pairsL_get {n:Nat}{I:Nat→Int×Int}{i:Nat}(hi:i<n):(pairsL n I)[i*2]? = some (.int .i64 (I i).1)∧(pairsL n I)[i*2+1]? = some (.int .i64 (I i).2):=by
 induction n with
 | zero=>omega
 | succ n ih =>
  rw[pairsL_succ];have hl:=pairsL_length n I;by_cases e:i=n
  ·subst e;rw[List.getElem?_append_right (by omega),List.getElem?_append_right (by omega),hl];simp
  ·rw[List.getElem?_append_left (by omega),List.getElem?_append_left (by omega)];exact ih (by omega)
theorem pairsL_congr {n:Nat}{I J:Nat→Int×Int}(h:∀i,i<n→I i=J i):pairsL n I=pairsL n J:=by
 induction n with
 | zero=>rfl
 | succ n ih=>rw[pairsL_succ,pairsL_succ,ih fun i hi=>h i (by omega),h n (by omega)]
def OwnP (w:World) (ad:Option Addr) (n cap:Nat) (I:Nat→Int×Int):Prop:=
 (ad=none∧n=0∧cap=0)∨∃g,ad=some ⟨g,0,none⟩∧PairsAt w g n cap I
def Blk (ad:Option Addr) (p:Nat→Prop):Prop:=∀a,ad=some a→p a.block
namespace OwnP
variable {w w':World}{ad:Option Addr}{n cap:Nat}{I J:Nat→Int×Int}
theorem form (h:OwnP w ad n cap I) (hn:0<n):∃g,ad=some ⟨g,0,none⟩∧PairsAt w g n cap I:=by
 rcases h with ⟨_,h,_⟩|h
 ·omega
 ·exact h
theorem kept (h:OwnP w ad n cap I) (k:Blk ad fun b=>w'.heap[b]? = w.heap[b]?):OwnP w' ad n cap I:=by
 rcases h with h|⟨g,rfl,h⟩
 ·exact .inl h
 ·exact .inr ⟨g,rfl,h.of_block (k _ rfl)⟩
theorem lt (h:OwnP w ad n cap I):Blk ad fun b=>b<w.heap.size:=by
 intro a ha;rcases h with ⟨rfl,_⟩|⟨g,rfl,h⟩
 ·cases ha
 ·cases ha;exact h.lt
theorem nil (w:World) (I:Nat→Int×Int):OwnP w none 0 0 I:=.inl ⟨rfl,rfl,rfl⟩
theorem owns (h:OwnP w ad n cap I){B:Nat}(hB:Blk ad fun b=>B≤b):w.ownsRow B 101 2 (.slice ad n cap) n (pairsL n I):=by
 refine⟨pairsL_length n I,?_⟩;rcases h with ⟨rfl,rfl,rfl⟩|⟨g,rfl,cur,hb,h1,h2,h3,h4⟩
 ·exact .inl ⟨rfl,rfl⟩
 ·refine .inr ⟨g,cap,cur,rfl,hB _ rfl,hb,h1,h2,h3,?_⟩;apply List.ext_getElem?;intro j;by_cases hj:j<n*2
  ·rw[List.getElem?_take,if_pos hj,Array.getElem?_toList];by_cases e:j % 2=0
   ·obtain⟨i,rfl⟩:∃i,j=i*2:=⟨j / 2,by omega⟩
    rw[(h4 i (by omega)).1,(pairsL_get (by omega)).1]
   ·obtain⟨i,rfl⟩:∃i,j=i*2+1:=⟨j / 2,by omega⟩
    rw[(h4 i (by omega)).2,(pairsL_get (by omega)).2]
  ·rw[List.getElem?_eq_none (show (cur.toList.take (n*2)).length≤j by simp;omega),List.getElem?_eq_none (show (pairsL n I).length≤j by rw[pairsL_length];omega)]
theorem of_owns {v:Value}{B:Nat}(h:w.ownsRow B 101 2 v n (pairsL n I)):∃ad cap,v = .slice ad n cap∧OwnP w ad n cap I∧(Blk ad fun b=>B≤b):=by
 obtain⟨_,h⟩:=h;rcases h with ⟨rfl,rfl⟩|⟨g,cap,cur,rfl,hB,hb,h1,h2,h3,h4⟩
 ·exact⟨none,0,rfl,.inl ⟨rfl,rfl,rfl⟩,fun a ha=>by cases ha⟩
 ·refine⟨_,cap,rfl,.inr ⟨g,rfl,cur,hb,h1,h2,h3,fun i hi=>?_⟩,fun a ha=>by cases ha;exact hB⟩;have e0:=congrArg (·[i*2]?) h4;have e1:=congrArg (·[i*2+1]?) h4;simp only[List.getElem?_take]at e0 e1;rw[if_pos (by omega),Array.getElem?_toList,(pairsL_get hi).1]at e0;rw[if_pos (by omega),Array.getElem?_toList,(pairsL_get hi).2]at e1;exact⟨e0,e1⟩
end OwnP
theorem info30 : (Tryz.prog.info? 101).map (fun i=>(i.zero,i.size,i.bytes))=some (some (.agg #[.int .i64 0,.int .i64 0]),2,16):=by kernel_rfl
structure Moved (S:Nat→Prop) (w w':World):Prop where
 os:w'.os=w.os
 tape:w'.tape=w.tape
 output:w'.output=w.output
 size:w.heap.size≤w'.heap.size
 block:∀k,k<w.heap.size→¬S k→w'.heap[k]? = w.heap[k]?
namespace Moved
variable {S T:Nat→Prop}{a b c w w':World}
theorem refl (S:Nat→Prop) (w:World):Moved S w w:=⟨rfl,rfl,rfl,Nat.le_refl _,fun _ _ _=>rfl⟩
theorem trans (h:Moved S a b) (k:Moved S b c):Moved S a c:=
 ⟨k.os.trans h.os,k.tape.trans h.tape,k.output.trans h.output,Nat.le_trans h.size k.size,fun i hi hp=>(k.block i (Nat.lt_of_lt_of_le hi h.size) hp).trans (h.block i hi hp)⟩
theorem then_ (h:Moved S a b) (k:Moved T b c) (hT:∀i,T i→S i∨a.heap.size≤i):Moved S a c:=
 ⟨k.os.trans h.os,k.tape.trans h.tape,k.output.trans h.output,Nat.le_trans h.size k.size,fun i hi hp=>(k.block i (Nat.lt_of_lt_of_le hi h.size) fun t=>by rcases hT i t with s|s;exact hp s;omega).trans (h.block i hi hp)⟩
theorem mono (h:Moved S a b) (hS:∀i,S i→T i):Moved T a b:=⟨h.os,h.tape,h.output,h.size,fun i hi hp=>h.block i hi fun s=>hp (hS i s)⟩
theorem below {B:Nat}(h:Moved S a b) (hB:B≤a.heap.size) (hS:∀i,S i→B≤i):Below B a b:=
 ⟨h.os,h.tape,h.output,h.size,fun k hk=>h.block k (by omega) fun s=>by have:=hS k s;omega⟩
theorem of_below (h:Below a.heap.size a b):Moved S a b:=⟨h.os,h.tape,h.output,h.size,fun k hk _=>h.block k hk⟩
theorem of_turned {m:Nat}(h:Turned m a b) (hm:S m):Moved S a b:=⟨h.os,h.tape,h.output,by rw[h.size];omega,fun k _ hs=>h.block k fun e=>hs (e ▸ hm)⟩
theorem set {g:Nat}(w:World) (hg:S g) (o:Nat) (v:Value):Moved S w (w.setCell ⟨g,o,none⟩ v):=
 ⟨rfl,rfl,rfl,by simp[World.setCell],fun k _ hp=>Below.heap_setCell _ _ _ _ fun e=>hp (e ▸ hg)⟩
theorem new (w:World) (o:Obj):Moved S w (w.alloc o):=⟨rfl,rfl,rfl,by simp,fun k hk _=>Below.heap_alloc _ _ _ hk⟩
theorem drew (h:Moved S a b):Moved S a b.drew:=⟨h.os,h.tape,h.output,h.size,h.block⟩
theorem undrew (h:Moved S a.drew b):Moved S a b:=⟨h.os,h.tape,h.output,h.size,h.block⟩
end Moved
end Go.Proofs.YtnnmdkaoiofabaaGreat.Rk
namespace Go.Proofs.YtnnmdkaoiofabaaGreat.Rk
open Go Go.RowKit
def Places (n:Nat) (I:Nat→Int×Int) (P:Int→Option Int):Prop:=∀k j,P k=some j↔∃i:Nat,i<n∧(I i).1=k∧j=(i:Int)
structure IsQ (w:World) (Q:Nat) (ad:Option Addr) (n cap:Nat) (mp:Option Nat) (I:Nat→Int×Int):Prop where
 head:w.heap[Q]? = some (.cells #[.slice ad n cap,.map mp] 160 (0,0))
 row:OwnP w ad n cap I
 apart:Blk ad fun b=>Q<b
 ids:Ids n I
 none_:mp=none→n=0
 some_:∀m,mp=some m→∃P,IsMap w m P∧Places n I P∧Q<m
def Foot (Q:Nat) (ad:Option Addr) (mp:Option Nat) (k:Nat):Prop:=k=Q∨(∃a,ad=some a∧a.block=k)∨mp=some k
namespace IsQ
variable {w w':World}{Q n cap:Nat}{ad:Option Addr}{mp:Option Nat}{I:Nat→Int×Int}
theorem lt (h:IsQ w Q ad n cap mp I):Q<w.heap.size:=(Array.getElem?_eq_some_iff.1 h.head).1
theorem foot_lt (h:IsQ w Q ad n cap mp I){k:Nat}(hk:Foot Q ad mp k):k<w.heap.size:=by
 rcases hk with rfl|⟨a,ha,rfl⟩|hm
 ·exact h.lt
 ·exact h.row.lt a ha
 ·obtain⟨P,hP,_⟩:=h.some_ k hm;exact hP.lt
theorem cell0 (h:IsQ w Q ad n cap mp I):w.cell? ⟨Q,0,none⟩=some (.slice ad n cap):=by simp[World.cell?,h.head]
theorem cell1 (h:IsQ w Q ad n cap mp I):w.cell? ⟨Q,1,none⟩=some (.map mp):=by simp[World.cell?,h.head]
theorem frozen (h:IsQ w Q ad n cap mp I) (i:Nat):w.frozen? ⟨Q,i,none⟩=false:=by simp[World.frozen?,h.head]
theorem kept (h:IsQ w Q ad n cap mp I) (k:∀b,Foot Q ad mp b→w'.heap[b]? = w.heap[b]?):IsQ w' Q ad n cap mp I:=
 ⟨(k _ (.inl rfl)).trans h.head,h.row.kept fun a ha=>k _ (.inr (.inl ⟨a,ha,rfl⟩)),h.apart,h.ids,h.none_,fun m hm=>by
   obtain⟨P,h1,h2⟩:=h.some_ m hm;exact⟨P,h1.same (k _ (.inr (.inr hm))),h2⟩⟩
theorem below (h:IsQ w Q ad n cap mp I) (k:Below w.heap.size w w'):IsQ w' Q ad n cap mp I:=h.kept fun _ hb=>k.block _ (h.foot_lt hb)
theorem new (h:IsQ w Q ad n cap mp I) (o:Obj):IsQ (w.alloc o) Q ad n cap mp I:=h.kept fun _ hb=>Below.heap_alloc _ _ _ (h.foot_lt hb)
end IsQ
section
variable {w:World}{Q n cap:Nat}{ad:Option Addr}{mp:Option Nat}{I:Nat→Int×Int}
theorem rlen_any (h:IsQ w Q ad n cap mp I) :
  Calls Tryz.prog 107 #[.pointer (some ⟨Q,0,none⟩)] w fun e w'=>e = .returned (.int .i64 (n:Int))∧w'=w:=by
 have c0:=h.cell0;go_enter Tryz.func107,Tryz.ntmps107
 go_wp2
 go_ret
 exact⟨rfl,rfl⟩
theorem less_any (h:IsQ w Q ad n cap mp I) (i j:Nat) (hi:i<n) (hj:j<n) :
  Calls Tryz.prog 224 #[.pointer (some ⟨Q,0,none⟩),.int .i64 (i:Int),.int .i64 (j:Int)] w fun e w'=>e = .returned (.bool (bet (I i) (I j)))∧Below w.heap.size w w':=by
 have c0:=h.cell0;obtain⟨g,rfl,hp⟩:=h.row.form (by omega);have p0:=hp.cell0 hi;have p1:=hp.cell1 hi;have q0:=hp.cell0 hj;have q1:=hp.cell1 hj;have hg:=hp.lt;have hQ:=h.lt;have hi':(i:Int)<(n:Int):=by omega
 have hj':(j:Int)<(n:Int):=by omega
 obtain⟨x,hx⟩:∃x,I i=x:=⟨_,rfl⟩
 obtain⟨y,hy⟩:∃y,I j=y:=⟨_,rfl⟩
 rw[hx]at p0 p1 ⊢;rw[hy]at q0 q1 ⊢;clear hx hy;obtain⟨x0,x1⟩:=x;obtain⟨y0,y1⟩:=y;simp only at p0 p1 q0 q1;have hB:∀a b:Array Value,Below w.heap.size w (((w.alloc (.cells a 101)).alloc (.cells b 101)).drew):=fun a b=>(((Below.refl _ w).alloc (Nat.le_refl _) _).alloc (by simp) _).drew
 by_cases e:x1=y1
 ·subst e;have hb:bet (x0,x1) (y0,x1)=decide (x0<y0):=by simp[bet]
  rw[hb];go_enter Tryz.func224,Tryz.ntmps224
  go_wp2
  go_region
  all_goals
   go_wp2
   go_ret
   exact⟨rfl,hB _ _⟩
 ·have hb:bet (x0,x1) (y0,y1)=decide (y1<x1):=by simp[bet,e]
  rw[hb];go_enter Tryz.func224,Tryz.ntmps224
  go_wp2
  go_region
  all_goals
   go_wp2
   go_ret
   exact⟨rfl,hB _ _⟩
end
end Go.Proofs.YtnnmdkaoiofabaaGreat.Rk
namespace Go.Proofs.YtnnmdkaoiofabaaGreat.Rk
open Go Go.RowKit
section
variable {w:World}{Q n cap:Nat}{ad:Option Addr}{mp:Option Nat}{I:Nat→Int×Int}
set_option maxHeartbeats 1600000 in
theorem swap_any (h:IsQ w Q ad n cap mp I) (i j:Nat) (hi:i<n) (hj:j<n) (hij:i≠j) :
  Calls Tryz.prog 227 #[.pointer (some ⟨Q,0,none⟩),.int .i64 (i:Int),.int .i64 (j:Int)] w fun e w'=>e = .returned (.tuple #[])∧IsQ w' Q ad n cap mp (swp I i j)∧Moved (Foot Q ad mp) w w':=by
 have c0:=h.cell0;obtain⟨g,rfl,hp⟩:=h.row.form (by omega);have hQg:Q<g:=h.apart _ rfl;obtain⟨m,rfl⟩:∃m,mp=some m:=by
  cases mp with
  | none=>have:=h.none_ rfl;omega
  | some m=>exact⟨m,rfl⟩
 obtain⟨P,hM,hP,hQm⟩:=h.some_ m rfl;have p0:=hp.cell0 hi;have p1:=hp.cell1 hi;have q0:=hp.cell0 hj;have q1:=hp.cell1 hj;have f0:=hp.frozen (i*2);have f1:=hp.frozen (i*2+1);have f2:=hp.frozen (j*2);have f3:=hp.frozen (j*2+1);have hg:=hp.lt;have hQ:=h.lt;have hgQ:Q≠g:=by omega
 have hgQ':g≠Q:=by omega
 have hi':(i:Int)<(n:Int):=by omega
 have hj':(j:Int)<(n:Int):=by omega
 go_enter Tryz.func227,Tryz.ntmps227
 go_wp2
 go_region
 have s1:=(hp.set hi (I j).1 (I j).2).set hj (I i).1 (I i).2;have k1:∀b,b≠g→(((((w.setCell ⟨g,i*2,none⟩ (.int .i64 (I j).1)).setCell ⟨g,i*2+1,none⟩ (.int .i64 (I j).2)).setCell ⟨g,j*2,none⟩ (.int .i64 (I i).1)).setCell ⟨g,j*2+1,none⟩ (.int .i64 (I i).2)).drew).heap[b]? = w.heap[b]?:=fun b hb=>by
  show ((((w.setCell _ _).setCell _ _).setCell _ _).setCell _ _).heap[b]? = _;rw[Below.heap_setCell _ _ _ _ hb,Below.heap_setCell _ _ _ _ hb,Below.heap_setCell _ _ _ _ hb,Below.heap_setCell _ _ _ _ hb]
 have m1:Moved (Foot Q (some ⟨g,0,none⟩) (some m)) w (((((w.setCell ⟨g,i*2,none⟩ (.int .i64 (I j).1)).setCell ⟨g,i*2+1,none⟩ (.int .i64 (I j).2)).setCell ⟨g,j*2,none⟩ (.int .i64 (I i).1)).setCell ⟨g,j*2+1,none⟩ (.int .i64 (I i).2)).drew):=
  ((((Moved.set w (.inr (.inl ⟨_,rfl,rfl⟩)) _ _).trans (Moved.set _ (.inr (.inl ⟨_,rfl,rfl⟩)) _ _)).trans (Moved.set _ (.inr (.inl ⟨_,rfl,rfl⟩)) _ _)).trans (Moved.set _ (.inr (.inl ⟨_,rfl,rfl⟩)) _ _)).drew
 have s2:PairsAt (((((w.setCell ⟨g,i*2,none⟩ (.int .i64 (I j).1)).setCell ⟨g,i*2+1,none⟩ (.int .i64 (I j).2)).setCell ⟨g,j*2,none⟩ (.int .i64 (I i).1)).setCell ⟨g,j*2+1,none⟩ (.int .i64 (I i).2)).drew) g n cap (swp I i j):=
  (s1.of_block (w':=World.drew _) rfl).congr fun k _=>by
   by_cases e:k=j
   ·subst e;rw[setP_same,swp_r]
   ·rw[setP_other _ _ e];by_cases e2:k=i
    ·subst e2;rw[setP_same,swp_l]
    ·rw[setP_other _ _ e2,swp_o I e2 e]
 generalize World.drew _=w1 at k1 m1 s2 ⊢;clear s1 p0 p1 q0 q1 f0 f1 f2 f3 c0;have hmg:m≠g:=fun e=>by
  obtain⟨es,clock,l,hb,_⟩:=hM;obtain⟨cur,hb',_⟩:=hp;rw[e,hb']at hb;cases hb
 have hM1:=hM.same (k1 m hmg);have hd1:w1.heap[Q]? = _:=(k1 Q hgQ).trans h.head;have c0:w1.cell? ⟨Q,0,none⟩=some (.slice (some ⟨g,0,none⟩) n cap):=by simp[World.cell?,hd1]
 have c1:w1.cell? ⟨Q,1,none⟩=some (.map (some m)):=by simp[World.cell?,hd1]
 have p0:=s2.cell0 hi;have q0:=s2.cell0 hj;rw[swp_l]at p0;rw[swp_r]at q0;obtain⟨w2,hr2,hM2,t2⟩:=map_put (w:=w1.drew) (hM1.same rfl) (I j).1 (i:Int)
 go_wp2
 go_region
 have hd2:w2.heap[Q]? = _:=(t2.block Q (by omega)).trans hd1;have c2:w2.cell? ⟨Q,0,none⟩=some (.slice (some ⟨g,0,none⟩) n cap):=by simp[World.cell?,hd2]
 have c3:w2.cell? ⟨Q,1,none⟩=some (.map (some m)):=by simp[World.cell?,hd2]
 have s3:PairsAt w2 g n cap (swp I i j):=s2.of_block (t2.block g (fun e=>hmg e.symm));have q2:=s3.cell0 hj;rw[swp_r]at q2;obtain⟨w3,hr3,hM3,t3⟩:=map_put (w:=w2.drew) (hM2.same rfl) (I i).1 (j:Int);clear hr2 c0 c1 p0 q0
 go_wp2
 go_region
 go_wp2
 go_end0
 have hFm:Foot Q (some ⟨g,0,none⟩) (some m) m:=.inr (.inr rfl);refine⟨rfl,⟨(t3.block Q (by omega)).trans hd2,.inr ⟨g,rfl,s3.of_block (t3.block g (fun e=>hmg e.symm))⟩,h.apart,h.ids.swapped hi hj,(fun e=>by cases e),fun m' hm'=>?_⟩,?_⟩
 ·cases hm';refine⟨_,hM3,fun k jj=>?_,hQm⟩;have hne:(I i).1≠(I j).1:=fun e=>hij (h.ids i j hi hj e)
  unfold at1;by_cases e1:k=(I i).1
  ·subst e1;simp only[if_true,Option.some.injEq];constructor
   ·rintro rfl;exact⟨j,hj,by rw[swp_r],rfl⟩
   ·rintro⟨a,ha,hk,rfl⟩;have:=h.ids.swapped hi hj a j ha hj (by rw[hk,swp_r]);omega
  ·rw[if_neg e1];by_cases e2:k=(I j).1
   ·subst e2;simp only[if_true,Option.some.injEq];constructor
    ·rintro rfl;exact⟨i,hi,by rw[swp_l],rfl⟩
    ·rintro⟨a,ha,hk,rfl⟩;have:=h.ids.swapped hi hj a i ha hi (by rw[hk,swp_l]);omega
   ·rw[if_neg e2,hP k jj];constructor
    ·rintro⟨a,ha,hk,rfl⟩;exact⟨a,ha,by rw[swp_o I (fun e=>e1 (by rw[← hk,e])) (fun e=>e2 (by rw[← hk,e]))];exact hk,rfl⟩
    ·rintro⟨a,ha,hk,rfl⟩;by_cases e3:a=i
     ·subst e3;rw[swp_l]at hk;exact absurd hk.symm e2
     ·by_cases e4:a=j
      ·subst e4;rw[swp_r]at hk;exact absurd hk.symm e1
      ·rw[swp_o I e3 e4]at hk;exact⟨a,ha,hk,rfl⟩
 ·exact((m1.drew).trans (Moved.of_turned ⟨t2.os,t2.tape,t2.output,t2.size,t2.block⟩ hFm)).trans (Moved.undrew (Moved.of_turned t3 hFm))
end
end Go.Proofs.YtnnmdkaoiofabaaGreat.Rk
