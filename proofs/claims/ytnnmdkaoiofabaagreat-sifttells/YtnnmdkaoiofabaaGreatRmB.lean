/-
  Maps from handles to numbers: what is looked up, laid and struck, as a function of the key; their keys, gone through in whatever order. The library's keys of a map of handles, gathered into a slice of the call's own: each once. What is met, as a sorted slice of handles. The library's keys of a map of handles that is none of package mark's, sorted.
-/
import Derived.Test.YtnnmdkaoiofabaaGreatRsA
import Derived.MapKept
import Derived.Laws.IdiomRangeMap
import Derived.Test.YtnnmdkaoiofabaaGreatRsK
import Derived.RangeFuncBox
import Derived.RangeFuncNested
import Derived.RangeFuncLeaves
import Derived.Shelf.Abstract
import Derived.OwnWalkIn
import Derived.TacticsInMore
import Derived.LoopNIn
import Derived.LoopIn
import Derived.Sort.LoopGhostIn
import Derived.Maps.AppendAt
import Derived.Test.YtnnmdkaoiofabaaGreatRsO
namespace Go.Proofs.YtnnmdkaoiofabaaGreat.Rm
open Rs
open Go Go.RowKit
def look : List (Int×Int)→Int→Option Int
 | [],_=>none
 | p :: l,k=>if p.1=k then some p.2 else look l k
theorem look_none {k:Int}:∀{l:List (Int×Int)},look l k=none↔∀p∈l,p.1≠k
 | []=>by simp[look]
 | p :: l=>by
  have:=look_none (k:=k) (l:=l);by_cases h:p.1=k
  ·simp[look,h]
  ·simp[look,h,this]
theorem look_append (k:Int) (v:Int) (k':Int):∀(l:List (Int×Int)),look l k=none→look (l ++ [(k,v)]) k'=if k'=k then some v else look l k'
 | [],_=>by
  by_cases h:k'=k
  ·simp[look,h]
  ·have h':¬k=k':=fun e=>h e.symm
   simp[look,h,h']
 | p :: l,h=>by
  have hp:p.1≠k:=look_none.1 h p (by simp);have hl:look l k=none:=look_none.2 fun q hq=>look_none.1 h q (by simp[hq])
  have:=look_append k v k' l hl;by_cases e:p.1=k'
  ·have:k'≠k:=fun x=>hp (e.trans x)
   simp[look,e,this]
  ·simp[look,e,this]
theorem look_set (k v v0 k':Int):∀(l:List (Int×Int)) (j:Nat),(l.map (·.1)).Nodup→l[j]? = some (k,v0)→look (l.set j (k,v)) k'=if k'=k then some v else look l k'
 | [],j,_,h=>by simp at h
 | p :: l,0,_,h=>by
  obtain rfl:p=(k,v0):=by simpa using h
  by_cases e:k'=k
  ·simp[look,e]
  ·have e':¬k=k':=fun x=>e x.symm
   simp[look,e,e']
 | p :: l,j+1,hn,h=>by
  have h':l[j]? = some (k,v0):=by simpa using h
  have hn':(l.map (·.1)).Nodup:=(List.nodup_cons.1 (by simpa using hn)).2;have hp:p.1≠k:=fun e=>(List.nodup_cons.1 (show (p.1 :: l.map (·.1)).Nodup by simpa using hn)).1 (e ▸ List.mem_map.2 ⟨_,List.mem_of_getElem? h',rfl⟩)
  have:=look_set k v v0 k' l j hn' h';by_cases e:p.1=k'
  ·have:k'≠k:=fun x=>hp (e.trans x)
   simp[look,e,this]
  ·simp[look,e,this]
def pairV (p:Int×Int):Value×Value:=(.int .u32 p.1,.agg #[])
theorem find_spec (k:Int):∀(es:List MapEntry) (l:List (Int×Int)) (i:Nat),es.map (fun e=>(e.key,e.val))=l.map pairV →
  (Instr.findNow (.int .u32) (.int .u32 k) es i=some none∧look l k=none)∨∃(j:Nat) (v:Int),Instr.findNow (.int .u32) (.int .u32 k) es i=some (some (i+j,.agg #[]))∧l[j]? = some (k,v)∧look l k=some v
 | [],l,i,h=>by
  cases l with
  | nil=>exact .inl ⟨rfl,rfl⟩
  | cons p l=>simp at h
 | e :: es,l,i,h=>by
  cases l with
  | nil=>simp at h
  | cons p l =>
   simp only[List.map_cons,List.cons.injEq,pairV,Prod.mk.injEq]at h;obtain⟨⟨h1,h2⟩,h3⟩:=h;by_cases c:p.1=k
   ·refine .inr ⟨0,p.2,?_,by simp[← c],by simp[look,c]⟩;simp[Instr.findNow,h1,h2,Instr.sameNow,c]
   ·have c':(k == p.1)=false:=by
     rw[beq_eq_false_iff_ne];exact fun x=>c x.symm
    rcases find_spec k es l (i+1) h3 with ⟨a,b⟩|⟨j,v,a,b,d⟩
    ·exact .inl ⟨by simp[Instr.findNow,h1,Instr.sameNow,c',a],by simp[look,c,b]⟩
    ·refine .inr ⟨j+1,v,?_,by simpa using b,by simp[look,c,d]⟩;simp[Instr.findNow,h1,Instr.sameNow,c',a];omega
theorem heap_turn {w:World}{b:Nat}{o':Obj}:Went (fun k=>k=b) w { w with heap:=w.heap.setIfInBounds b o' }:=by
 refine⟨rfl,rfl,rfl,by simp,fun i _ hne=>?_⟩;simp[Array.getElem?_setIfInBounds_ne (fun e=>hne e.symm)]
theorem heap_now {w:World}{b:Nat}{o o':Obj}(hb:w.heap[b]? = some o):({ w with heap:=w.heap.setIfInBounds b o' }:World).heap[b]? = some o':=by
 have hlt:b<w.heap.size:=(Array.getElem?_eq_some_iff.1 hb).1;simp[hlt]
structure MapIs (es:Array MapEntry) (clock:Nat) (l:List (Int×Int)):Prop where
 pairs:es.toList.map (fun e=>(e.key,e.val))=l.map pairV
 old:∀x∈es.toList,x.born<clock
 once:(es.toList.map (·.born)).Nodup
 nodup:(l.map (·.1)).Nodup
def IsMap (w:World) (b:Nat) (P:Int→Option Int) (m:Nat):Prop:=
 ∃(es:Array MapEntry) (clock:Nat) (l:List (Int×Int)),w.heap[b]? = some (.map es clock)∧MapIs es clock l∧(∀k,look l k=P k)∧l.length≤m
section
variable {w u:World}{b m:Nat}{P P':Int→Option Int}
theorem IsMap.lt (h:IsMap w b P m):b<w.heap.size:=by
 obtain⟨es,clock,l,h,_⟩:=h;exact(Array.getElem?_eq_some_iff.1 h).1
theorem IsMap.same (h:IsMap w b P m) (e:u.heap[b]? = w.heap[b]?):IsMap u b P m:=by
 obtain⟨es,clock,l,h,k⟩:=h;exact⟨es,clock,l,e.trans h,k⟩
theorem IsMap.congr (h:IsMap w b P m) (e:∀k,P k=P' k):IsMap w b P' m:=by
 obtain⟨es,clock,l,h,k2,k3,k4⟩:=h;exact⟨es,clock,l,h,k2,fun k=>(k3 k).trans (e k),k4⟩
theorem IsMap.more (h:IsMap w b P m){m':Nat}(hm:m≤m'):IsMap w b P m':=by
 obtain⟨es,clock,l,h,k2,k3,k4⟩:=h;exact⟨es,clock,l,h,k2,k3,Nat.le_trans k4 hm⟩
theorem IsMap.fresh (w:World):IsMap (w.alloc (.map #[] 0)) w.heap.size (fun _=>none) 0:=
 ⟨#[],0,[],(MapKept.heap_alloc w _).1,⟨rfl,by simp,by simp,by simp⟩,fun _=>rfl,Nat.le_refl _⟩
end
def at1 {α:Type}(P:Int→α) (k:Int) (v:α):Int→α:=fun i=>if i=k then v else P i
theorem isKey (k:Int):MapKept.IsKey (.int .u32) (.int .u32 k):=by simp[MapKept.IsKey]
theorem zero3 (w:World):(zeroValue 126).run Tryz.prog w = .ok (.agg #[]) w:=by kernel_rfl
theorem map_look {w:World}{b m:Nat}{P:Int→Option Int}(h:IsMap w b P m) (k:Int) :
  (Instr.lookup 120 (.map (some b)) (.int .u32 k) true).run Tryz.prog w = .ok (.tuple #[.agg #[],.bool (P k).isSome]) w:=by
 obtain⟨es,clock,l,hb,h1,h3,_⟩:=h;have hc:=MapKept.run_checkKey (w:=w) Tryz.underlying36 (isKey k) es.isEmpty 9999;rcases find_spec k es.toList l 0 h1.pairs with ⟨hf,hn⟩|⟨j,v,hf,hj,hl⟩
 ·have hf':=MapKept.run_findKey (w:=w) Tryz.underlying36 hf;rw[h3 k]at hn;simp only[Instr.lookup,Sem.run_bind,run_underlying Tryz.underlying120,Result.andThen_ok,MapKept.run_getObj_map hb,Sem.run_pure,hc,hf',zero3,hn];rfl
 ·have hf':=MapKept.run_findKey (w:=w) Tryz.underlying36 hf;rw[h3 k]at hl;simp only[Instr.lookup,Sem.run_bind,run_underlying Tryz.underlying120,Result.andThen_ok,MapKept.run_getObj_map hb,Sem.run_pure,hc,hf',hl];rfl
theorem map_put {w:World}{b m:Nat}{P:Int→Option Int}(h:IsMap w b P m) (k v:Int) :
  ∃w',(Instr.mapUpdate 120 (.map (some b)) (.int .u32 k) (.agg #[])).run Tryz.prog w = .ok () w'∧IsMap w' b (at1 P k (some v)) (m+1)∧Went (fun k=>k=b) w w':=by
 obtain⟨es,clock,l,hb,h1,h3,h4⟩:=h;have hc:=MapKept.run_checkKey (w:=w) Tryz.underlying36 (isKey k) false 9999;rcases find_spec k es.toList l 0 h1.pairs with ⟨hf,hn⟩|⟨j,u,hf,hj,hl⟩
 ·have hf':=MapKept.run_findKey (w:=w) Tryz.underlying36 hf;refine⟨{ w with heap:=w.heap.setIfInBounds b (.map (es.push { key:=.int .u32 k,val:=.agg #[],born:=clock }) (clock+1)) },?_,⟨_,_,l ++ [(k,v)],heap_now hb,⟨?_,?_,?_,?_⟩,?_,by simp;omega⟩,heap_turn⟩
  ·simp only[Instr.mapUpdate,Sem.run_bind,run_underlying Tryz.underlying120,Result.andThen_ok,MapKept.run_getObj_map hb,hc,hf'];exact MapKept.run_setObj_map _ hb
  ·simp[h1.pairs,pairV]
  ·intro x hx;simp at hx;rcases hx with hx|rfl
   ·have:=h1.old x (by simpa using hx);omega
   ·simp
  ·rw[Array.toList_push,List.map_append,List.nodup_append];refine⟨h1.once,by simp,fun a ha c hc'=>?_⟩;simp at hc';subst hc';obtain⟨x,hx,rfl⟩:=List.mem_map.1 ha;have:=h1.old x hx;omega
  ·rw[List.map_append,List.nodup_append];refine⟨h1.nodup,by simp,fun a ha c hc'=>?_⟩;simp at hc';subst hc';obtain⟨p,hp,rfl⟩:=List.mem_map.1 ha;exact look_none.1 hn p hp
  ·intro k';rw[look_append k v k' l hn,h3 k'];rfl
 ·have hf':=MapKept.run_findKey (w:=w) Tryz.underlying36 hf;rw[Nat.zero_add]at hf';have hjk:(es[j]?).map (fun e=>(e.key,e.val))=some (pairV (k,u)):=by
   have h4:=congrArg (·[j]?) h1.pairs;simp only[List.getElem?_map,hj,Option.map_some]at h4;simpa using h4
  obtain⟨e,he,hek⟩:=Option.map_eq_some_iff.1 hjk;simp only[pairV,Prod.mk.injEq]at hek;have hks:=MapKept.run_keyThatStays (P:=Tryz.prog) (w:=w) (isKey k);have hb2:(es.modify j fun e=>{ e with key:=.int .u32 k,val:=.agg #[] }).toList.map (·.born)=es.toList.map (·.born):=by
   rw[Array.toList_modify];apply List.ext_getElem?;intro i;simp only[List.getElem?_map,List.getElem?_modify];by_cases e2:j=i
   ·subst e2;simp only[if_true];cases es.toList[j]? <;> rfl
   ·simp[e2]
  refine⟨{ w with heap:=w.heap.setIfInBounds b (.map (es.modify j fun e=>{ e with key:=.int .u32 k,val:=.agg #[] }) clock) },?_,⟨_,_,l.set j (k,v),heap_now hb,⟨?_,?_,by rw[hb2];exact h1.once,?_⟩,?_,by simp;omega⟩,heap_turn⟩
  ·simp only[Instr.mapUpdate,Sem.run_bind,run_underlying Tryz.underlying120,Result.andThen_ok,MapKept.run_getObj_map hb,hc,hf',he,Option.map_some,Option.getD_some,hek.1,hks];exact MapKept.run_setObj_map _ hb
  ·rw[Array.toList_modify];apply List.ext_getElem?;intro i;have h4:=congrArg (·[i]?) h1.pairs;simp only[List.getElem?_map]at h4;simp only[List.getElem?_map,List.getElem?_modify,List.getElem?_set];by_cases e2:j=i
   ·subst e2;have hlt:j<l.length:=(List.getElem?_eq_some_iff.1 hj).1;have he2:es.toList[j]? = some e:=by simpa using he
    simp[hlt,he2,pairV]
   ·simp only[e2,if_false];rw[← h4];simp
  ·intro x hx;have hx2:x.born∈(es.modify j fun e=>{ e with key:=.int .u32 k,val:=.agg #[] }).toList.map (·.born):=List.mem_map.2 ⟨x,hx,rfl⟩;rw[hb2]at hx2;obtain⟨y,hy,hyx⟩:=List.mem_map.1 hx2;rw[← hyx];exact h1.old y hy
  ·have:(l.set j (k,v)).map (·.1)=l.map (·.1):=by
    apply List.ext_getElem?;intro i;simp only[List.getElem?_map,List.getElem?_set];by_cases e2:j=i
    ·subst e2;have hlt:j<l.length:=(List.getElem?_eq_some_iff.1 hj).1;have hj':l[j]=(k,u):=Option.some.inj ((List.getElem?_eq_getElem hlt).symm.trans hj);simp[hlt,hj']
    ·simp[e2]
   rw[this];exact h1.nodup
  ·intro k';rw[look_set k v u k' l j h1.nodup hj,h3 k'];rfl
structure Iter (w:World) (it b:Nat) (l:List (Int×Int)) (vs:List Int):Prop where
 ex:∃es clock seen,w.heap[b]? = some (.map es clock)∧MapIs es clock l∧w.heap[it]? = some (.mapIter (some b) clock seen clock)∧∃vis:List MapEntry,vis.map (·.key)=vs.map (Value.int .u32)∧seen.toList=vis.map (·.born)∧(∀x∈vis,x∈es.toList)∧(vis.map (·.born)).Nodup
theorem Iter.start {w:World}{b:Nat}{es:Array MapEntry}{clock:Nat}{l:List (Int×Int)}(hb:w.heap[b]? = some (.map es clock)) (k:MapIs es clock l) :
  (Instr.range 120 (.map (some b))).run Tryz.prog w = .ok (.pointer (some ⟨w.heap.size,0,none⟩)) (w.alloc (.mapIter (some b) clock #[] clock))∧Iter (w.alloc (.mapIter (some b) clock #[] clock)) w.heap.size b l []:=by
 have hlt:b<w.heap.size:=(Array.getElem?_eq_some_iff.1 hb).1;refine⟨run_range_map w 120 36 126 b es clock Tryz.underlying120 hb,⟨es,clock,#[],?_,k,(MapKept.heap_alloc w _).1,[],rfl,rfl,by simp,by simp⟩⟩;exact(Below.heap_alloc w _ b hlt).trans hb
theorem Iter.same {w u:World}{it b:Nat}{l:List (Int×Int)}{vs:List Int}(h:Iter w it b l vs) (e1:u.heap[b]? = w.heap[b]?) (e2:u.heap[it]? = w.heap[it]?):Iter u it b l vs:=by
 obtain⟨es,clock,seen,h1,h2,h3,h4⟩:=h.ex;exact⟨es,clock,seen,e1.trans h1,h2,e2.trans h3,h4⟩
theorem Iter.blocks {w:World}{it b:Nat}{l:List (Int×Int)}{vs:List Int}(h:Iter w it b l vs):∃es clock seen,w.heap[b]? = some (.map es clock)∧w.heap[it]? = some (.mapIter (some b) clock seen clock):=by
 obtain⟨es,clock,seen,h1,h2,h3,h4⟩:=h.ex;exact⟨es,clock,seen,h1,h3⟩
theorem key_at {es:List MapEntry}{l:List (Int×Int)}(h:es.map (fun e=>(e.key,e.val))=l.map pairV){e:MapEntry}(he:e∈es):∃p∈l,e.key = .int .u32 p.1∧e.val = .agg #[]:=by
 have:(e.key,e.val)∈es.map (fun e=>(e.key,e.val)):=List.mem_map.2 ⟨e,he,rfl⟩;rw[h]at this;obtain⟨p,hp,hk⟩:=List.mem_map.1 this;simp only[pairV,Prod.mk.injEq]at hk;exact⟨p,hp,hk.1.symm,hk.2.symm⟩
theorem keys_inj {es:List MapEntry}{l:List (Int×Int)}(h:es.map (fun e=>(e.key,e.val))=l.map pairV) (hn:(l.map (·.1)).Nodup){x y:MapEntry}(hx:x∈es) (hy:y∈es) (e:x.key=y.key):x=y:=by
 obtain⟨i,hi⟩:=List.mem_iff_getElem?.1 hx;obtain⟨j,hj⟩:=List.mem_iff_getElem?.1 hy;have h1:=congrArg (·[i]?) h;have h2:=congrArg (·[j]?) h;simp only[List.getElem?_map,hi,hj,Option.map_some]at h1 h2;obtain⟨s,hs1,hs2⟩:=Option.map_eq_some_iff.1 h1.symm;obtain⟨t,ht1,ht2⟩:=Option.map_eq_some_iff.1 h2.symm;simp only[pairV,Prod.mk.injEq]at hs2 ht2;have hst:s.1=t.1:=by
  have:Value.int .u32 s.1=Value.int .u32 t.1:=by rw[hs2.1,ht2.1,e]
  injection this
 have hij:i=j:=by
  have e1:(l.map (·.1))[i]? = some s.1:=by simp[hs1]
  have e2:(l.map (·.1))[j]? = some s.1:=by simp[ht1,hst]
  exact(List.getElem?_inj (List.getElem?_eq_some_iff.1 e1).1 hn).1 (e1.trans e2.symm)
 subst hij;exact Option.some.inj (hi.symm.trans hj)
theorem Iter.next {w:World}{it b:Nat}{l:List (Int×Int)}{vs:List Int}(h:Iter w it b l vs) (ty:TypeId) :
  ((∀p∈l,p.1∈vs)∧(Instr.next (.pointer (some ⟨it,0,none⟩)) false ty).run Tryz.prog w = .ok (.tuple #[.bool false]) w) ∨
  ∃(t v:Int) (w':World),(t,v)∈l∧t ∉ vs∧(Instr.next (.pointer (some ⟨it,0,none⟩)) false ty).run Tryz.prog w = .ok (.tuple #[.bool true,.int .u32 t,.agg #[]]) w'∧Iter w' it b l (vs ++ [t])∧Went (fun k=>k=it) w w'∧w'.heap.size=w.heap.size∧(Instr.entry (.pointer (some ⟨it,0,none⟩))).run Tryz.prog w' = .ok (.tuple #[.int .u32 t,.agg #[]]) w':=by
 obtain⟨es,clock,seen,hb,k,hi,vis,hv1,hv2,hv3,hv4⟩:=h.ex;have hne:it≠b:=fun e=>by rw[e,hb]at hi;cases hi
 have hold:=k.old;have hcont:∀x:MapEntry,x∈es.toList→(seen.contains x.born=true↔x∈vis):=by
  intro x hx;rw[Array.contains_iff_mem,← Array.mem_toList_iff,hv2,List.mem_map];constructor
  ·rintro⟨y,hy,e⟩;rw[← born_inj k.once (hv3 y hy) hx e];exact hy
  ·intro hxv;exact⟨x,hxv,rfl⟩
 simp only[Instr.next,getObj,Sem.run_bind,Sem.run,hi,hb,Result.andThen,next_test_false seen es clock clock hold (Nat.le_refl _),Bool.false_eq_true,if_false];have hL:∀x,x∈(Array.filter (fun e=>!seen.contains e.born) es).toList↔x∈es.toList∧x ∉ vis:=by
  intro x;rw[Array.mem_toList_iff,Array.mem_filter,Array.mem_toList_iff];constructor
  ·rintro⟨h1,h2⟩;refine⟨h1,fun hxv=>?_⟩;have:=(hcont x (Array.mem_toList_iff.2 h1)).2 hxv;rw[this]at h2;cases h2
  ·rintro⟨h1,h2⟩;refine⟨h1,?_⟩;cases hc:seen.contains x.born with
   | false=>rfl
   | true=>exact absurd ((hcont x (Array.mem_toList_iff.2 h1)).1 hc) h2
 generalize Array.filter (fun e=>!seen.contains e.born) es=L at hL;have hmem:∀x∈L.toList,x.born<clock:=fun x hx=>hold x ((hL x).1 hx).1
 have e1:L.filter (fun x=>decide (x.born<clock))=L:=Array.filter_eq_self.2 (fun x hx=>by simpa using hmem x (by simpa using hx));have e2:L.filter (fun x=>decide (x.born≥clock))=#[]:=by
  rw[Array.filter_eq_empty_iff];intro x hx;have:=hmem x (by simpa using hx);simp;omega
 simp only[e1,e2,Array.append_empty];by_cases h0:L.size=0
 ·left
  have:L=#[]:=Array.eq_empty_of_size_eq_zero h0;subst this;refine⟨fun p hp=>?_,by simp[choose,Sem.run,Question.forced]⟩;have hk:pairV p∈es.toList.map (fun e=>(e.key,e.val)):=by rw[k.pairs];exact List.mem_map.2 ⟨p,hp,rfl⟩
  obtain⟨x,hx,hxk⟩:=List.mem_map.1 hk;simp only[pairV,Prod.mk.injEq]at hxk;have hxv:x∈vis:=by
   apply Classical.byContradiction;intro hn;have:=(hL x).2 ⟨hx,hn⟩;simp at this
  have:x.key∈vis.map (·.key):=List.mem_map.2 ⟨x,hxv,rfl⟩;rw[hv1,hxk.1]at this;obtain⟨u,hu,hue⟩:=List.mem_map.1 this;injection hue with _ hue
  rw[← hue];exact hu
 ·right;have hnem:L.isEmpty=false:=by simp[Array.isEmpty,h0]
  simp only[hnem,Bool.false_eq_true,if_false,Array.empty_append,Array.size_map];have hch:∃(j:Nat) (w1:World),j<L.size∧w1.Alike w∧w1.tape=w.tape∧(choose (Question.mapNext L.size)).run Tryz.prog w = .ok j w1:=by
   by_cases hf:L.size≤1
   ·exact⟨0,w,by omega,⟨rfl,rfl,rfl⟩,rfl,by simp[choose,Sem.run,Question.forced,hf]⟩
   ·exact⟨_,w.drew,Nat.mod_lt _ (by omega),⟨rfl,rfl,rfl⟩,rfl,by
     simp only[choose,Sem.run,Question.forced,decide_eq_true_eq,hf,if_false,Question.cut];rfl⟩
  obtain⟨j,w1,hj,hal,htape,hrun⟩:=hch;have hjm:L[j]∈L.toList:=by simp
  obtain⟨hje,hjv⟩:=(hL _).1 hjm;obtain⟨p,hp,hkt,hkv⟩:=key_at k.pairs hje;have hi1:w1.heap[it]? = some (.mapIter (some b) clock seen clock):=by rw[hal.1];exact hi
  have hb1:w1.heap[b]? = some (.map es clock):=by rw[hal.1];exact hb
  have hset:∀o':Obj,(setObj it o').run Tryz.prog w1 = .ok () { w1 with heap:=w1.heap.setIfInBounds it o' }:=fun o'=>by
   simp[setObj,Sem.run,hi1]
  have hit':=heap_now (o':=.mapIter (some b) clock (seen.push L[j].born) clock) hi1;have hb':({ w1 with heap:=w1.heap.setIfInBounds it (.mapIter (some b) clock (seen.push L[j].born) clock) }:World).heap[b]? = some (.map es clock):=by
   simp only[Array.getElem?_setIfInBounds_ne hne];exact hb1
  refine⟨p.1,p.2,{ w1 with heap:=w1.heap.setIfInBounds it (.mapIter (some b) clock (seen.push L[j].born) clock) },hp,fun htv=>?_,?_,⟨es,clock,_,hb',k,hit',vis ++ [L[j]],?_,?_,?_,?_⟩,?_,?_,?_⟩
  ·have:Value.int .u32 p.1∈vis.map (·.key):=by rw[hv1];exact List.mem_map.2 ⟨p.1,htv,rfl⟩
   obtain⟨y,hy,hyk⟩:=List.mem_map.1 this;have:=keys_inj k.pairs k.nodup (hv3 y hy) hje (by rw[hyk,hkt]);exact hjv (this ▸ hy)
  ·simp only[hrun,Array.getElem?_map,Array.getElem?_eq_getElem hj,Option.map_some,Sem.run_bind,hset,Result.andThen,hkt,hkv];rfl
  ·simp[hv1,hkt]
  ·simp[hv2]
  ·intro x hx;rcases List.mem_append.1 hx with hx|hx
   ·exact hv3 x hx
   ·simp at hx;subst hx;exact hje
  ·rw[List.map_append,List.nodup_append];refine⟨hv4,by simp,fun a ha c hc=>?_⟩;simp at hc;subst hc;obtain⟨y,hy,rfl⟩:=List.mem_map.1 ha;intro e;exact hjv (born_inj k.once (hv3 y hy) hje e ▸ hy)
  ·have ht2:=heap_turn (w:=w1) (b:=it) (o':=.mapIter (some b) clock (seen.push L[j].born) clock);refine⟨hal.2.1,htape,hal.2.2,?_,fun i hi2 hne2=>?_⟩
   ·rw[← hal.1];exact ht2.size
   ·rw[ht2.block i (by rw[hal.1];exact hi2) hne2,hal.1]
  ·simp[hal.1]
  ·have hf:es.find? (·.born == L[j].born)=some L[j]:=by rw[← Array.find?_toList];exact find_born L[j] es.toList k.once hje
   simp only[Instr.entry,getObj,Sem.run_bind,Sem.run,hit',hb',Result.andThen,Array.back?_push,bne_self_eq_false,Bool.false_eq_true,if_false,hf,hkt,hkv];rfl
end Go.Proofs.YtnnmdkaoiofabaaGreat.Rm
namespace Go.Proofs.YtnnmdkaoiofabaaGreat.Rm
open Rs (nodup_len grown_of_went Went)
open Go Go.RowKit Go.Shelf
attribute [local go_sem] Oper.semAt_some
theorem look_some {k:Int}:∀{l:List (Int×Int)},(look l k).isSome=true↔∃p∈l,p.1=k
 | []=>by simp[look]
 | p :: l=>by
  have:=look_some (k:=k) (l:=l);by_cases h:p.1=k
  ·simp[look,h]
  ·simp[look,h,this]
def Keys (P:Int→Option Int) (xs:List Int):Prop:=xs.Nodup∧∀x,x∈xs↔(P x).isSome=true
set_option maxRecDepth 100000 in
set_option maxHeartbeats 2000000 in
theorem keys1_in (n:Nat) (hn:1≤n) (l Bm b m:Nat) (P:Int→Option Int) (J Jx:List Int→World→Prop)
  (hY:∀pre x W,J pre W→pre.length<m→YieldAt Fence.wide (n-1) Tryz.prog l #[.int .u32 x] W fun e W' =>
   (e = .returned (.bool true)∧J (pre ++ [x]) W'∧KeepsWalks W W')∨(e = .returned (.bool false)∧Jx (pre ++ [x]) W'))
  (W:World) (hJ:AbidesFrom W.heap.size J) (hm:W.cell? ⟨Bm,0,none⟩=some (.map (some b))) (hmap:IsMap W b P m) (h0:J [] W) :
  CallsIn Fence.wide n Tryz.prog 97 #[.func (.yield l) #[] #[],.pointer (some ⟨Bm,0,none⟩)] W fun e W'=>(∃v,e = .returned v) ∧
   ((∃ys,Keys P ys∧J ys W')∨(∃pre,True∧Jx pre W')):=by
 obtain⟨es,clock,ps,hb,k,hP,hlen⟩:=hmap;obtain⟨hr,hI0⟩:=Iter.start hb k;refine callsIn_of_wp Tryz.func97 rfl trivial ?_ rfl;simp only[Tryz.ntmps97,List.size_toArray,List.length_cons,List.length_nil,Nat.reduceAdd,Nat.reduceSub,Array.replicate_succ,Array.replicate_zero,List.push_toArray,List.append_toArray,List.nil_append,List.cons_append]
 gi_wp2
 have hJ0:J [] (W.alloc (.mapIter (some b) clock #[] clock)):=hJ [] W _ none h0 (World.grownBy_alloc W _ none) (fun r e=>by cases e);obtain⟨it,hit⟩:∃it,it=W.heap.size:=⟨_,rfl⟩
 rw[← hit]at hI0 ⊢;have hitA:Aside (W.heap.size≤it):=Nat.le_of_eq hit.symm;clear hr hit;generalize W.alloc (.mapIter (some b) clock #[] clock)=w0 at hI0 hJ0 ⊢;gi_loopg [3] (ps.length+1) (fun g _ wr=>∃vs:List Int,vs.length+g=ps.length+1∧Aside (vs.Nodup)∧Aside (∀x∈vs,x∈ps.map (·.1))∧Iter wr it b ps vs∧Aside (J vs wr))
 case atStart=>exact⟨[],by simp,by simp[Aside],by simp[Aside],hI0,hJ0⟩
 case round =>
  clear hI0 hJ0;obtain⟨vs,hg,hvn,hvs,hI,hJs⟩:=hrel;have hJs':J vs wr:=hJs.out;rcases hI.next 0 with ⟨hall,hnx⟩|⟨t,v,w2,htl,htv,hnx,hI2,hw2,hs2,hen⟩
  ·gi_wp2
   go_end0
   refine⟨⟨_,rfl⟩,.inl ⟨vs,⟨hvn.out,fun x=>?_⟩,hJs'⟩⟩;rw[← hP x,look_some];constructor
   ·intro hx;obtain⟨p,hp,e⟩:=List.mem_map.1 (hvs.out x hx);exact⟨p,hp,e⟩
   ·rintro⟨p,hp,rfl⟩;exact hall p hp
  ·have hJ2:J vs w2:=hJ vs wr w2 (some it) hJs' (grown_of_went hw2) (fun r e=>by
    cases e;obtain⟨_,_,_,_,hi⟩:=hI.blocks;exact⟨hitA.out,_,hi,rfl⟩)
   have htk:t∈ps.map (·.1):=List.mem_map.2 ⟨_,htl,rfl⟩;have hlt:vs.length<ps.length:=by
    have:=nodup_len (t :: vs) (ps.map (·.1)) (List.nodup_cons.2 ⟨htv,hvn.out⟩) (fun x hx=>by
     rcases List.mem_cons.1 hx with rfl|hx
     ·exact htk
     ·exact hvs.out x hx)
    simp at this;omega
   obtain⟨fn,tmps,assign,body,hy,hR⟩:=hY vs t w2 hJ2 (by omega);have hvn2:Aside ((vs ++ [t]).Nodup):=by
    show List.Nodup _;rw[List.nodup_append];exact⟨hvn.out,by simp,fun a ha c hc e=>by simp at hc;subst hc;subst e;exact htv ha⟩
   have hvs2:Aside (∀x∈vs ++ [t],x∈ps.map (·.1)):=fun x hx=>by
    rcases List.mem_append.1 hx with hx|hx
    ·exact hvs.out x hx
    ·simp at hx;subst hx;exact htk
   have hgA:Aside (vs.length+gk=ps.length+1):=hg;have hltA:Aside (vs.length<ps.length):=hlt;clear htl htv htk hlt hg;clear hs2
   gi_wp2
   refine hR.mono ?_;rintro e W3 (⟨rfl,hJ3,hk3⟩|⟨rfl,hJx3⟩)
   ·gi_wp2
    gi_roundg (gk-1)
    case measure=>have:=hgA.out;have:=hltA.out;omega
    case rel =>
     refine⟨vs ++ [t],by have:=hgA.out;have:=hltA.out;simp;omega,hvn2,hvs2,?_,hJ3⟩;obtain⟨_,_,_,h1,h2⟩:=hI2.blocks;exact hI2.same ((hk3.same _ _ h1 rfl).trans h1.symm) ((hk3.same _ _ h2 rfl).trans h2.symm)
   ·gi_wp2
    refine bodyPost_ret (results_none rfl _ _ _) rfl ?_;exact⟨⟨_,rfl⟩,.inr ⟨_,trivial,hJx3⟩⟩
set_option maxRecDepth 100000 in
set_option maxHeartbeats 2000000 in
theorem keys0_in (n:Nat) (l Bm:Nat) (J Jx:List Int→World→Prop) (W:World) (hJ:AbidesFrom W.heap.size J) (hm:W.cell? ⟨Bm,0,none⟩=some (.map none)) (h0:J [] W) :
  CallsIn Fence.wide n Tryz.prog 97 #[.func (.yield l) #[] #[],.pointer (some ⟨Bm,0,none⟩)] W fun e W'=>(∃v,e = .returned v) ∧
   ((∃ys,Keys (fun _=>none) ys∧J ys W')∨(∃pre,True∧Jx pre W')):=by
 have hrg:=run_range_nilMap (P:=Tryz.prog) W 120 36 126 Tryz.underlying120;have hnx:∀ty,(Instr.next (.pointer (some ⟨W.heap.size,0,none⟩)) false ty).run Tryz.prog (W.alloc (.mapIter none 0 #[] 0))=_:=fun ty=>run_next_nilMap _ ty 0 0 #[]
 have hJ0:J [] (W.alloc (.mapIter none 0 #[] 0)):=hJ [] W _ none h0 (World.grownBy_alloc W _ none) (fun r e=>by cases e);refine callsIn_of_wp Tryz.func97 rfl trivial ?_ rfl;simp only[Tryz.ntmps97,List.size_toArray,List.length_cons,List.length_nil,Nat.reduceAdd,Nat.reduceSub,Array.replicate_succ,Array.replicate_zero,List.push_toArray,List.append_toArray,List.nil_append,List.cons_append]
 gi_wp2
 refine wpIn_loop_rounds 1 ?_;rw[roundsIn_succ]
 gi_wp2
 go_end0
 exact⟨⟨_,rfl⟩,.inl ⟨[],⟨by simp,by simp⟩,hJ0⟩⟩
def MapV (w:World) (mb:Option Nat) (P:Int→Option Int) (m:Nat):Prop:=
 match mb with
 | none=>∀k,P k=none
 | some b=>IsMap w b P m
theorem MapV.kept {w u:World}{mb:Option Nat}{P:Int→Option Int}{m:Nat}(h:MapV w mb P m) (e:∀b,mb=some b→u.heap[b]? = w.heap[b]?):MapV u mb P m:=by
 cases mb with
 | none=>exact h
 | some b=>exact IsMap.same h (e b rfl)
theorem MapV.lt {w:World}{mb:Option Nat}{P:Int→Option Int}{m:Nat}(h:MapV w mb P m):∀b,mb=some b→b<w.heap.size:=by
 rintro b rfl;exact IsMap.lt h
theorem keys_stops (n:Nat) (hn:1≤n) (Bm m:Nat) (mb:Option Nat) (P:Int→Option Int) (w:World) (hBm:Bm<w.heap.size) (hc:w.cell? ⟨Bm,0,none⟩=some (.map mb)) (hmap:MapV w mb P m) :
  SeqStopsK Fence.wide n Tryz.prog 97 #[.pointer (some ⟨Bm,0,none⟩)] (fun x:Int=>#[Value.int .u32 x]) KeepsWalks (Keys P) (fun _=>True) m w:=fun l J Jx W hW hJ _ hY h0=>by
 have hc':=(hW.cell (p:=⟨Bm,0,none⟩) hBm).trans hc;have hm':MapV W mb P m:=hmap.kept fun b hb=>hW.block b (hmap.lt b hb)
 cases mb with
 | none =>
  have hP:P=fun _=>none:=funext hmap
  subst hP;exact keys0_in n l Bm J Jx W hJ hc' h0
 | some b=>exact keys1_in n hn l Bm b m P J Jx hY W hJ hc' hm' h0
theorem info29 : (Tryz.prog.info? 36).map (fun i=>(i.zero,i.size,i.bytes))=some (some (.int .u32 0),1,4):=by kernel_rfl
set_option maxRecDepth 100000 in
set_option maxHeartbeats 4000000 in
theorem appendSeq_any (Bm m:Nat) (mb:Option Nat) (P:Int→Option Int) (w:World) (hm:m≤1000000) (hBm:Bm<w.heap.size) (hc:w.cell? ⟨Bm,0,none⟩=some (.map mb)) (hmap:MapV w mb P m) :
  Calls Tryz.prog 113 #[.slice none 0 0,.func (.func 97) #[] #[.pointer (some ⟨Bm,0,none⟩)]] w fun e W'=>∃v xs,e = .returned v∧Keys P xs∧xs.length≤m∧W'.ownsRow w.heap.size 36 1 v xs.length (xs.map (Value.int .u32))∧(v = .slice none 0 0↔xs=[])∧Below w.heap.size w W':=by
 obtain⟨i0,hi,hz0,hz1,hz2⟩:=info_parts info29;refine(callsIn_wide (n:=3)).1 ?_;refine callsIn_of_wp_marks Tryz.func113 rfl trivial ?_ rfl;simp only[Tryz.ntmps113,List.size_toArray,List.length_cons,List.length_nil,Nat.reduceAdd,Nat.reduceSub,Array.replicate_succ,Array.replicate_zero,List.push_toArray,List.append_toArray,List.nil_append,List.cons_append]
 gi_wp2
 have bO:=Boxed.new w 32 (.slice none 0 0);have hB0:Below w.heap.size w (w.alloc (.cells #[.slice none 0 0] 32)):=(Below.refl _ w).alloc (Nat.le_refl _) _;have hc1:(w.alloc (.cells #[.slice none 0 0] 32)).cell? ⟨Bm,0,none⟩=some (.map mb):=(hB0.cell (p:=⟨Bm,0,none⟩) hBm).trans hc;have hm1:MapV (w.alloc (.cells #[.slice none 0 0] 32)) mb P m:=hmap.kept fun b hb=>hB0.block b (hmap.lt b hb)
 refine wpIn_rangeFunc_ownG rfl (by omega) (gf:=97) (lb:=#[.pointer (some ⟨Bm,0,none⟩)]) rfl trivial (enters_of Tryz.func97 (by kernel_rfl) rfl)
  (keys_stops (3-1) (by omega) Bm m mb P _ (by simp;omega) hc1 hm1) walksK_t walksK_b (Below.refl _ _) (fun _=>rfl)
  (fun pre W=>((∃v,Boxed W w.heap.size 32 v∧W.ownsRow w.heap.size 36 1 v pre.length (pre.map (Value.int .u32))∧(v = .slice none 0 0↔pre=[]))∧Below w.heap.size w W)∧pre.length≤m)
  (fun _ _ _=>False)
  (OwnFrom.and (OwnFrom.and (Own.from (holdsRow_own w.heap.size w.heap.size 32 36 1 (fun pre:List Int=>pre.length) (fun pre=>pre.map (Value.int .u32)) (fun pre v=>v = .slice none 0 0↔pre=[])) _) (ownFrom_below (Nat.le_refl _) (by simp))) (ownFrom_pure _ _))
  (fun _ _ _ _ _ hs _ _=>hs)
  ⟨⟨⟨_,bO,World.ownsRow_nil _ _ _ _,by simp⟩,hB0⟩,Nat.zero_le _⟩
  (fun x=>{ tmps:=#[.slice none 0 0,.func (.func 97) #[] #[.pointer (some ⟨Bm,0,none⟩)],.pointer (some ⟨w.heap.size,0,none⟩),undef,.slice none 0 0,.int .u32 x,.func (.func 97) #[] #[.pointer (some ⟨Bm,0,none⟩)],.int .u32 x,undef,undef,undef,undef,undef],defers:=[] }) ?assign ?body ?done ?stop
 case assign =>
  intro l x W K hK
  gi_wp2
  exact hK
 case body =>
  rintro l pre x W ⟨⟨⟨v,hv,hrow,hnil⟩,hB⟩,hpm⟩ hlt;have hc:=hv.cell
  gi_wp2_with (gi_at_builtin;refine wpListIn_append_own _ rfl _ _ 32 rfl w.heap.size 36 i0 (.int .u32 0) 1 4 Tryz.underlying32 hi hz0 hz1 hz2 rfl (by decide) _ _ _ rfl (hrow.alloc _) ⟨W.heap.size,0,none⟩ 1 1 [.int .u32 x] rfl rfl (cell_one_new _ _ _) (by simp[Value.oneCell']) (by simp only[maxLen];omega) (by omega) (by have:=hB.size;simp;omega) ?_;intro v' w1 hown' hgrow _;obtain⟨g',cap',rfl⟩:=ownsRow_succ hown';obtain⟨hv1,hv2,hr2,hk2,hb2⟩:=hv.appended (by decide) hrow hB.size (Nat.le_refl _) hown' hgrow;have hc1:=hv1.cell;have hf1:=hv1.frozen)
  exact⟨hk2.from _,hk2.walks,⟨⟨_,hv2,by simpa using hr2,by simp⟩,hB.trans hb2⟩,by simp;omega⟩
 case done =>
  rintro D ys W hD hS ⟨⟨⟨v,hv,hrow,hnil⟩,hB⟩,hpm⟩ hK;have hc:=hv.cell
  gi_wp2
  refine⟨by simp,.inl ⟨_,_,rfl,run_takeDeferred hK,?_⟩⟩;exact⟨_,results_tmp rfl _ _ _,v,ys,rfl,hS,hpm,ownsRow_putObj hrow _ hK rfl,hnil,hB.trans (belowK_b (w:=w) (Nat.le_refl _) W D _ _ (by simp at hD;omega) hK rfl rfl)⟩
 case stop =>
  rintro D c pre W _ _ h _;exact h.elim
end Go.Proofs.YtnnmdkaoiofabaaGreat.Rm
namespace Go.Proofs.YtnnmdkaoiofabaaGreat.Rm
open Rs (OwnH At own_of_row sortH strict_of Went)
open Go Go.RowKit
set_option maxHeartbeats 4000000 in
theorem keys_any (mb:Option Nat) (w:World) :
  Calls Tryz.prog 69 #[.map mb] w fun e w'=>e = .returned (.func (.func 97) #[] #[.pointer (some ⟨w.heap.size,0,none⟩)])∧w'=w.alloc (.cells #[.map mb] 120):=by
 have hmf:∀(w:World),(Instr.makeFunc (.func 97) #[] #[.pointer (some ⟨w.heap.size,0,none⟩)]).run Tryz.prog w = .ok (.func (.func 97) #[] #[.pointer (some ⟨w.heap.size,0,none⟩)]) w:=fun w=>rfl
 go_enter Tryz.func69,Tryz.ntmps69
 go_wp2
 go_ret
 exact⟨rfl,rfl⟩
theorem Keys.perm {P:Int→Option Int}{xs ys:List Int}(h:Keys P xs) (p:ys.Perm xs):Keys P ys:=⟨p.nodup_iff.2 h.1,fun x=>(p.mem_iff).trans (h.2 x)⟩
set_option maxHeartbeats 4000000 in
theorem collect_any (Bm m:Nat) (mb:Option Nat) (P:Int→Option Int) (w:World) (hm:m≤60000) (hBm:Bm<w.heap.size) (hc:w.cell? ⟨Bm,0,none⟩=some (.map mb)) (hmap:MapV w mb P m) :
  Calls Tryz.prog 95 #[.func (.func 97) #[] #[.pointer (some ⟨Bm,0,none⟩)]] w fun e w'=>∃ad cap xs,e = .returned (.slice ad xs.length cap)∧Keys P xs∧xs.length≤m∧OwnH w' ad cap xs∧(∀k,At ad k→w.heap.size≤k)∧Below w.heap.size w w':=by
 have K:=appendSeq_any Bm m mb P w (by omega) hBm hc hmap;clear hc;go_enter Tryz.func95,Tryz.ntmps95
 go_wp2_with (go_at_call 113;refine K.mono ?_;clear K;rintro e w' ⟨v,xs,rfl,hK,hx,hrow,_,hB⟩)
 go_ret
 obtain⟨ad,cap,rfl,ho,hA⟩:=own_of_row hrow;exact⟨ad,cap,xs,rfl,hK,hx,ho,hA,hB⟩
set_option maxHeartbeats 4000000 in
theorem sorted_any (Bm m:Nat) (mb:Option Nat) (P:Int→Option Int) (w:World) (hm:m≤60000) (hBm:Bm<w.heap.size) (hc:w.cell? ⟨Bm,0,none⟩=some (.map mb)) (hmap:MapV w mb P m) :
  Calls Tryz.prog 68 #[.func (.func 97) #[] #[.pointer (some ⟨Bm,0,none⟩)]] w fun e w'=>∃ad cap xs,e = .returned (.slice ad xs.length cap)∧Keys P xs∧xs.Pairwise (· < ·)∧xs.length≤m∧OwnH w' ad cap xs∧(∀k,At ad k→w.heap.size≤k)∧Below w.heap.size w w':=by
 have K:=collect_any Bm m mb P w hm hBm hc hmap;clear hc;go_enter Tryz.func68,Tryz.ntmps68
 go_wp2_with (first
  | (go_at_call 95;refine K.mono ?_;clear K;rintro e w1 ⟨ad,cap,xs,rfl,hK,hx,ho,hA,hB⟩;have K2:=sortH ho (by omega))
  | (go_at_call 96;refine K2.mono ?_;clear K2;rintro e w2 ⟨rfl,ys,hp,hs,ho2,hw2⟩))
 go_ret
 have hl:ys.length=xs.length:=hp.length_eq;have hK2:=hK.perm hp;refine⟨ad,cap,ys,?_,hK2,strict_of hK2.1 hs,by omega,ho2,hA,?_⟩
 ·rw[hl];rfl
 ·exact hB.trans ((hw2.below (B:=w.heap.size) hB.size fun i hi=>hA i hi))
end Go.Proofs.YtnnmdkaoiofabaaGreat.Rm
namespace Go.Proofs.YtnnmdkaoiofabaaGreat.Ru
open Rm
open Rs (nodup_len grown_of_went Went OwnH At own_of_row sortH strict_of)
open Go Go.RowKit Go.Shelf
attribute [local go_sem] Oper.semAt_some
theorem map_put {w:World}{b m:Nat}{P:Int→Option Int}(h:IsMap w b P m) (k v:Int) :
  ∃w',(Instr.mapUpdate 119 (.map (some b)) (.int .u32 k) (.agg #[])).run Tryz.prog w = .ok () w'∧IsMap w' b (at1 P k (some v)) (m+1)∧Went (fun k=>k=b) w w':=by
 obtain⟨es,clock,l,hb,h1,h3,h4⟩:=h;have hc:=MapKept.run_checkKey (w:=w) Tryz.underlying36 (isKey k) false 9999;rcases find_spec k es.toList l 0 h1.pairs with ⟨hf,hn⟩|⟨j,u,hf,hj,hl⟩
 ·have hf':=MapKept.run_findKey (w:=w) Tryz.underlying36 hf;refine⟨{ w with heap:=w.heap.setIfInBounds b (.map (es.push { key:=.int .u32 k,val:=.agg #[],born:=clock }) (clock+1)) },?_,⟨_,_,l ++ [(k,v)],heap_now hb,⟨?_,?_,?_,?_⟩,?_,by simp;omega⟩,heap_turn⟩
  ·simp only[Instr.mapUpdate,Sem.run_bind,run_underlying Tryz.underlying119,Result.andThen_ok,MapKept.run_getObj_map hb,hc,hf'];exact MapKept.run_setObj_map _ hb
  ·simp[h1.pairs,pairV]
  ·intro x hx;simp at hx;rcases hx with hx|rfl
   ·have:=h1.old x (by simpa using hx);omega
   ·simp
  ·rw[Array.toList_push,List.map_append,List.nodup_append];refine⟨h1.once,by simp,fun a ha c hc'=>?_⟩;simp at hc';subst hc';obtain⟨x,hx,rfl⟩:=List.mem_map.1 ha;have:=h1.old x hx;omega
  ·rw[List.map_append,List.nodup_append];refine⟨h1.nodup,by simp,fun a ha c hc'=>?_⟩;simp at hc';subst hc';obtain⟨p,hp,rfl⟩:=List.mem_map.1 ha;exact look_none.1 hn p hp
  ·intro k';rw[look_append k v k' l hn,h3 k'];rfl
 ·have hf':=MapKept.run_findKey (w:=w) Tryz.underlying36 hf;rw[Nat.zero_add]at hf';have hjk:(es[j]?).map (fun e=>(e.key,e.val))=some (pairV (k,u)):=by
   have h4:=congrArg (·[j]?) h1.pairs;simp only[List.getElem?_map,hj,Option.map_some]at h4;simpa using h4
  obtain⟨e,he,hek⟩:=Option.map_eq_some_iff.1 hjk;simp only[pairV,Prod.mk.injEq]at hek;have hks:=MapKept.run_keyThatStays (P:=Tryz.prog) (w:=w) (isKey k);have hb2:(es.modify j fun e=>{ e with key:=.int .u32 k,val:=.agg #[] }).toList.map (·.born)=es.toList.map (·.born):=by
   rw[Array.toList_modify];apply List.ext_getElem?;intro i;simp only[List.getElem?_map,List.getElem?_modify];by_cases e2:j=i
   ·subst e2;simp only[if_true];cases es.toList[j]? <;> rfl
   ·simp[e2]
  refine⟨{ w with heap:=w.heap.setIfInBounds b (.map (es.modify j fun e=>{ e with key:=.int .u32 k,val:=.agg #[] }) clock) },?_,⟨_,_,l.set j (k,v),heap_now hb,⟨?_,?_,by rw[hb2];exact h1.once,?_⟩,?_,by simp;omega⟩,heap_turn⟩
  ·simp only[Instr.mapUpdate,Sem.run_bind,run_underlying Tryz.underlying119,Result.andThen_ok,MapKept.run_getObj_map hb,hc,hf',he,Option.map_some,Option.getD_some,hek.1,hks];exact MapKept.run_setObj_map _ hb
  ·rw[Array.toList_modify];apply List.ext_getElem?;intro i;have h4:=congrArg (·[i]?) h1.pairs;simp only[List.getElem?_map]at h4;simp only[List.getElem?_map,List.getElem?_modify,List.getElem?_set];by_cases e2:j=i
   ·subst e2;have hlt:j<l.length:=(List.getElem?_eq_some_iff.1 hj).1;have he2:es.toList[j]? = some e:=by simpa using he
    simp[hlt,he2,pairV]
   ·simp only[e2,if_false];rw[← h4];simp
  ·intro x hx;have hx2:x.born∈(es.modify j fun e=>{ e with key:=.int .u32 k,val:=.agg #[] }).toList.map (·.born):=List.mem_map.2 ⟨x,hx,rfl⟩;rw[hb2]at hx2;obtain⟨y,hy,hyx⟩:=List.mem_map.1 hx2;rw[← hyx];exact h1.old y hy
  ·have:(l.set j (k,v)).map (·.1)=l.map (·.1):=by
    apply List.ext_getElem?;intro i;simp only[List.getElem?_map,List.getElem?_set];by_cases e2:j=i
    ·subst e2;have hlt:j<l.length:=(List.getElem?_eq_some_iff.1 hj).1;have hj':l[j]=(k,u):=Option.some.inj ((List.getElem?_eq_getElem hlt).symm.trans hj);simp[hlt,hj']
    ·simp[e2]
   rw[this];exact h1.nodup
  ·intro k';rw[look_set k v u k' l j h1.nodup hj,h3 k'];rfl
theorem Iter.start {w:World}{b:Nat}{es:Array MapEntry}{clock:Nat}{l:List (Int×Int)}(hb:w.heap[b]? = some (.map es clock)) (k:MapIs es clock l) :
  (Instr.range 119 (.map (some b))).run Tryz.prog w = .ok (.pointer (some ⟨w.heap.size,0,none⟩)) (w.alloc (.mapIter (some b) clock #[] clock))∧Iter (w.alloc (.mapIter (some b) clock #[] clock)) w.heap.size b l []:=by
 have hlt:b<w.heap.size:=(Array.getElem?_eq_some_iff.1 hb).1;refine⟨run_range_map w 119 36 126 b es clock Tryz.underlying119 hb,⟨es,clock,#[],?_,k,(MapKept.heap_alloc w _).1,[],rfl,rfl,by simp,by simp⟩⟩;exact(Below.heap_alloc w _ b hlt).trans hb
set_option maxRecDepth 100000 in
set_option maxHeartbeats 2000000 in
theorem keys1_in (n:Nat) (hn:1≤n) (l Bm b m:Nat) (P:Int→Option Int) (J Jx:List Int→World→Prop)
  (hY:∀pre x W,J pre W→pre.length<m→YieldAt Fence.wide (n-1) Tryz.prog l #[.int .u32 x] W fun e W' =>
   (e = .returned (.bool true)∧J (pre ++ [x]) W'∧KeepsWalks W W')∨(e = .returned (.bool false)∧Jx (pre ++ [x]) W'))
  (W:World) (hJ:AbidesFrom W.heap.size J) (hm:W.cell? ⟨Bm,0,none⟩=some (.map (some b))) (hmap:IsMap W b P m) (h0:J [] W) :
  CallsIn Fence.wide n Tryz.prog 109 #[.func (.yield l) #[] #[],.pointer (some ⟨Bm,0,none⟩)] W fun e W'=>(∃v,e = .returned v) ∧
   ((∃ys,Keys P ys∧J ys W')∨(∃pre,True∧Jx pre W')):=by
 obtain⟨es,clock,ps,hb,k,hP,hlen⟩:=hmap;obtain⟨hr,hI0⟩:=Iter.start hb k;refine callsIn_of_wp Tryz.func109 rfl trivial ?_ rfl;simp only[Tryz.ntmps109,List.size_toArray,List.length_cons,List.length_nil,Nat.reduceAdd,Nat.reduceSub,Array.replicate_succ,Array.replicate_zero,List.push_toArray,List.append_toArray,List.nil_append,List.cons_append]
 gi_wp2
 have hJ0:J [] (W.alloc (.mapIter (some b) clock #[] clock)):=hJ [] W _ none h0 (World.grownBy_alloc W _ none) (fun r e=>by cases e);obtain⟨it,hit⟩:∃it,it=W.heap.size:=⟨_,rfl⟩
 rw[← hit]at hI0 ⊢;have hitA:Aside (W.heap.size≤it):=Nat.le_of_eq hit.symm;clear hr hit;generalize W.alloc (.mapIter (some b) clock #[] clock)=w0 at hI0 hJ0 ⊢;gi_loopg [3] (ps.length+1) (fun g _ wr=>∃vs:List Int,vs.length+g=ps.length+1∧Aside (vs.Nodup)∧Aside (∀x∈vs,x∈ps.map (·.1))∧Iter wr it b ps vs∧Aside (J vs wr))
 case atStart=>exact⟨[],by simp,by simp[Aside],by simp[Aside],hI0,hJ0⟩
 case round =>
  clear hI0 hJ0;obtain⟨vs,hg,hvn,hvs,hI,hJs⟩:=hrel;have hJs':J vs wr:=hJs.out;rcases hI.next 0 with ⟨hall,hnx⟩|⟨t,v,w2,htl,htv,hnx,hI2,hw2,hs2,hen⟩
  ·gi_wp2
   go_end0
   refine⟨⟨_,rfl⟩,.inl ⟨vs,⟨hvn.out,fun x=>?_⟩,hJs'⟩⟩;rw[← hP x,look_some];constructor
   ·intro hx;obtain⟨p,hp,e⟩:=List.mem_map.1 (hvs.out x hx);exact⟨p,hp,e⟩
   ·rintro⟨p,hp,rfl⟩;exact hall p hp
  ·have hJ2:J vs w2:=hJ vs wr w2 (some it) hJs' (grown_of_went hw2) (fun r e=>by
    cases e;obtain⟨_,_,_,_,hi⟩:=hI.blocks;exact⟨hitA.out,_,hi,rfl⟩)
   have htk:t∈ps.map (·.1):=List.mem_map.2 ⟨_,htl,rfl⟩;have hlt:vs.length<ps.length:=by
    have:=nodup_len (t :: vs) (ps.map (·.1)) (List.nodup_cons.2 ⟨htv,hvn.out⟩) (fun x hx=>by
     rcases List.mem_cons.1 hx with rfl|hx
     ·exact htk
     ·exact hvs.out x hx)
    simp at this;omega
   obtain⟨fn,tmps,assign,body,hy,hR⟩:=hY vs t w2 hJ2 (by omega);have hvn2:Aside ((vs ++ [t]).Nodup):=by
    show List.Nodup _;rw[List.nodup_append];exact⟨hvn.out,by simp,fun a ha c hc e=>by simp at hc;subst hc;subst e;exact htv ha⟩
   have hvs2:Aside (∀x∈vs ++ [t],x∈ps.map (·.1)):=fun x hx=>by
    rcases List.mem_append.1 hx with hx|hx
    ·exact hvs.out x hx
    ·simp at hx;subst hx;exact htk
   have hgA:Aside (vs.length+gk=ps.length+1):=hg;have hltA:Aside (vs.length<ps.length):=hlt;clear htl htv htk hlt hg;clear hs2
   gi_wp2
   refine hR.mono ?_;rintro e W3 (⟨rfl,hJ3,hk3⟩|⟨rfl,hJx3⟩)
   ·gi_wp2
    gi_roundg (gk-1)
    case measure=>have:=hgA.out;have:=hltA.out;omega
    case rel =>
     refine⟨vs ++ [t],by have:=hgA.out;have:=hltA.out;simp;omega,hvn2,hvs2,?_,hJ3⟩;obtain⟨_,_,_,h1,h2⟩:=hI2.blocks;exact hI2.same ((hk3.same _ _ h1 rfl).trans h1.symm) ((hk3.same _ _ h2 rfl).trans h2.symm)
   ·gi_wp2
    refine bodyPost_ret (results_none rfl _ _ _) rfl ?_;exact⟨⟨_,rfl⟩,.inr ⟨_,trivial,hJx3⟩⟩
set_option maxRecDepth 100000 in
set_option maxHeartbeats 2000000 in
theorem keys0_in (n:Nat) (l Bm:Nat) (J Jx:List Int→World→Prop) (W:World) (hJ:AbidesFrom W.heap.size J) (hm:W.cell? ⟨Bm,0,none⟩=some (.map none)) (h0:J [] W) :
  CallsIn Fence.wide n Tryz.prog 109 #[.func (.yield l) #[] #[],.pointer (some ⟨Bm,0,none⟩)] W fun e W'=>(∃v,e = .returned v) ∧
   ((∃ys,Keys (fun _=>none) ys∧J ys W')∨(∃pre,True∧Jx pre W')):=by
 have hrg:=run_range_nilMap (P:=Tryz.prog) W 119 36 126 Tryz.underlying119;have hnx:∀ty,(Instr.next (.pointer (some ⟨W.heap.size,0,none⟩)) false ty).run Tryz.prog (W.alloc (.mapIter none 0 #[] 0))=_:=fun ty=>run_next_nilMap _ ty 0 0 #[]
 have hJ0:J [] (W.alloc (.mapIter none 0 #[] 0)):=hJ [] W _ none h0 (World.grownBy_alloc W _ none) (fun r e=>by cases e);refine callsIn_of_wp Tryz.func109 rfl trivial ?_ rfl;simp only[Tryz.ntmps109,List.size_toArray,List.length_cons,List.length_nil,Nat.reduceAdd,Nat.reduceSub,Array.replicate_succ,Array.replicate_zero,List.push_toArray,List.append_toArray,List.nil_append,List.cons_append]
 gi_wp2
 refine wpIn_loop_rounds 1 ?_;rw[roundsIn_succ]
 gi_wp2
 go_end0
 exact⟨⟨_,rfl⟩,.inl ⟨[],⟨by simp,by simp⟩,hJ0⟩⟩
theorem keys_stops (n:Nat) (hn:1≤n) (Bm m:Nat) (mb:Option Nat) (P:Int→Option Int) (w:World) (hBm:Bm<w.heap.size) (hc:w.cell? ⟨Bm,0,none⟩=some (.map mb)) (hmap:MapV w mb P m) :
  SeqStopsK Fence.wide n Tryz.prog 109 #[.pointer (some ⟨Bm,0,none⟩)] (fun x:Int=>#[Value.int .u32 x]) KeepsWalks (Keys P) (fun _=>True) m w:=fun l J Jx W hW hJ _ hY h0=>by
 have hc':=(hW.cell (p:=⟨Bm,0,none⟩) hBm).trans hc;have hm':MapV W mb P m:=hmap.kept fun b hb=>hW.block b (hmap.lt b hb)
 cases mb with
 | none =>
  have hP:P=fun _=>none:=funext hmap
  subst hP;exact keys0_in n l Bm J Jx W hJ hc' h0
 | some b=>exact keys1_in n hn l Bm b m P J Jx hY W hJ hc' hm' h0
set_option maxRecDepth 100000 in
set_option maxHeartbeats 4000000 in
theorem appendSeq_any (Bm m:Nat) (mb:Option Nat) (P:Int→Option Int) (w:World) (hm:m≤1000000) (hBm:Bm<w.heap.size) (hc:w.cell? ⟨Bm,0,none⟩=some (.map mb)) (hmap:MapV w mb P m) :
  Calls Tryz.prog 113 #[.slice none 0 0,.func (.func 109) #[] #[.pointer (some ⟨Bm,0,none⟩)]] w fun e W'=>∃v xs,e = .returned v∧Keys P xs∧xs.length≤m∧W'.ownsRow w.heap.size 36 1 v xs.length (xs.map (Value.int .u32))∧(v = .slice none 0 0↔xs=[])∧Below w.heap.size w W':=by
 obtain⟨i0,hi,hz0,hz1,hz2⟩:=info_parts info29;refine(callsIn_wide (n:=3)).1 ?_;refine callsIn_of_wp_marks Tryz.func113 rfl trivial ?_ rfl;simp only[Tryz.ntmps113,List.size_toArray,List.length_cons,List.length_nil,Nat.reduceAdd,Nat.reduceSub,Array.replicate_succ,Array.replicate_zero,List.push_toArray,List.append_toArray,List.nil_append,List.cons_append]
 gi_wp2
 have bO:=Boxed.new w 32 (.slice none 0 0);have hB0:Below w.heap.size w (w.alloc (.cells #[.slice none 0 0] 32)):=(Below.refl _ w).alloc (Nat.le_refl _) _;have hc1:(w.alloc (.cells #[.slice none 0 0] 32)).cell? ⟨Bm,0,none⟩=some (.map mb):=(hB0.cell (p:=⟨Bm,0,none⟩) hBm).trans hc;have hm1:MapV (w.alloc (.cells #[.slice none 0 0] 32)) mb P m:=hmap.kept fun b hb=>hB0.block b (hmap.lt b hb)
 refine wpIn_rangeFunc_ownG rfl (by omega) (gf:=109) (lb:=#[.pointer (some ⟨Bm,0,none⟩)]) rfl trivial (enters_of Tryz.func109 (by kernel_rfl) rfl)
  (keys_stops (3-1) (by omega) Bm m mb P _ (by simp;omega) hc1 hm1) walksK_t walksK_b (Below.refl _ _) (fun _=>rfl)
  (fun pre W=>((∃v,Boxed W w.heap.size 32 v∧W.ownsRow w.heap.size 36 1 v pre.length (pre.map (Value.int .u32))∧(v = .slice none 0 0↔pre=[]))∧Below w.heap.size w W)∧pre.length≤m)
  (fun _ _ _=>False)
  (OwnFrom.and (OwnFrom.and (Own.from (holdsRow_own w.heap.size w.heap.size 32 36 1 (fun pre:List Int=>pre.length) (fun pre=>pre.map (Value.int .u32)) (fun pre v=>v = .slice none 0 0↔pre=[])) _) (ownFrom_below (Nat.le_refl _) (by simp))) (ownFrom_pure _ _))
  (fun _ _ _ _ _ hs _ _=>hs)
  ⟨⟨⟨_,bO,World.ownsRow_nil _ _ _ _,by simp⟩,hB0⟩,Nat.zero_le _⟩
  (fun x=>{ tmps:=#[.slice none 0 0,.func (.func 109) #[] #[.pointer (some ⟨Bm,0,none⟩)],.pointer (some ⟨w.heap.size,0,none⟩),undef,.slice none 0 0,.int .u32 x,.func (.func 109) #[] #[.pointer (some ⟨Bm,0,none⟩)],.int .u32 x,undef,undef,undef,undef,undef],defers:=[] }) ?assign ?body ?done ?stop
 case assign =>
  intro l x W K hK
  gi_wp2
  exact hK
 case body =>
  rintro l pre x W ⟨⟨⟨v,hv,hrow,hnil⟩,hB⟩,hpm⟩ hlt;have hc:=hv.cell
  gi_wp2_with (gi_at_builtin;refine wpListIn_append_own _ rfl _ _ 32 rfl w.heap.size 36 i0 (.int .u32 0) 1 4 Tryz.underlying32 hi hz0 hz1 hz2 rfl (by decide) _ _ _ rfl (hrow.alloc _) ⟨W.heap.size,0,none⟩ 1 1 [.int .u32 x] rfl rfl (cell_one_new _ _ _) (by simp[Value.oneCell']) (by simp only[maxLen];omega) (by omega) (by have:=hB.size;simp;omega) ?_;intro v' w1 hown' hgrow _;obtain⟨g',cap',rfl⟩:=ownsRow_succ hown';obtain⟨hv1,hv2,hr2,hk2,hb2⟩:=hv.appended (by decide) hrow hB.size (Nat.le_refl _) hown' hgrow;have hc1:=hv1.cell;have hf1:=hv1.frozen)
  exact⟨hk2.from _,hk2.walks,⟨⟨_,hv2,by simpa using hr2,by simp⟩,hB.trans hb2⟩,by simp;omega⟩
 case done =>
  rintro D ys W hD hS ⟨⟨⟨v,hv,hrow,hnil⟩,hB⟩,hpm⟩ hK;have hc:=hv.cell
  gi_wp2
  refine⟨by simp,.inl ⟨_,_,rfl,run_takeDeferred hK,?_⟩⟩;exact⟨_,results_tmp rfl _ _ _,v,ys,rfl,hS,hpm,ownsRow_putObj hrow _ hK rfl,hnil,hB.trans (belowK_b (w:=w) (Nat.le_refl _) W D _ _ (by simp at hD;omega) hK rfl rfl)⟩
 case stop =>
  rintro D c pre W _ _ h _;exact h.elim
set_option maxHeartbeats 4000000 in
theorem keys_any (mb:Option Nat) (w:World) :
  Calls Tryz.prog 88 #[.map mb] w fun e w'=>e = .returned (.func (.func 109) #[] #[.pointer (some ⟨w.heap.size,0,none⟩)])∧w'=w.alloc (.cells #[.map mb] 119):=by
 have hmf:∀(w:World),(Instr.makeFunc (.func 109) #[] #[.pointer (some ⟨w.heap.size,0,none⟩)]).run Tryz.prog w = .ok (.func (.func 109) #[] #[.pointer (some ⟨w.heap.size,0,none⟩)]) w:=fun w=>rfl
 go_enter Tryz.func88,Tryz.ntmps88
 go_wp2
 go_ret
 exact⟨rfl,rfl⟩
set_option maxHeartbeats 4000000 in
theorem collect_any (Bm m:Nat) (mb:Option Nat) (P:Int→Option Int) (w:World) (hm:m≤60000) (hBm:Bm<w.heap.size) (hc:w.cell? ⟨Bm,0,none⟩=some (.map mb)) (hmap:MapV w mb P m) :
  Calls Tryz.prog 95 #[.func (.func 109) #[] #[.pointer (some ⟨Bm,0,none⟩)]] w fun e w'=>∃ad cap xs,e = .returned (.slice ad xs.length cap)∧Keys P xs∧xs.length≤m∧OwnH w' ad cap xs∧(∀k,At ad k→w.heap.size≤k)∧Below w.heap.size w w':=by
 have K:=appendSeq_any Bm m mb P w (by omega) hBm hc hmap;clear hc;go_enter Tryz.func95,Tryz.ntmps95
 go_wp2_with (go_at_call 113;refine K.mono ?_;clear K;rintro e w' ⟨v,xs,rfl,hK,hx,hrow,_,hB⟩)
 go_ret
 obtain⟨ad,cap,rfl,ho,hA⟩:=own_of_row hrow;exact⟨ad,cap,xs,rfl,hK,hx,ho,hA,hB⟩
set_option maxHeartbeats 4000000 in
theorem sorted_any (Bm m:Nat) (mb:Option Nat) (P:Int→Option Int) (w:World) (hm:m≤60000) (hBm:Bm<w.heap.size) (hc:w.cell? ⟨Bm,0,none⟩=some (.map mb)) (hmap:MapV w mb P m) :
  Calls Tryz.prog 68 #[.func (.func 109) #[] #[.pointer (some ⟨Bm,0,none⟩)]] w fun e w'=>∃ad cap xs,e = .returned (.slice ad xs.length cap)∧Keys P xs∧xs.Pairwise (· < ·)∧xs.length≤m∧OwnH w' ad cap xs∧(∀k,At ad k→w.heap.size≤k)∧Below w.heap.size w w':=by
 have K:=collect_any Bm m mb P w hm hBm hc hmap;clear hc;go_enter Tryz.func68,Tryz.ntmps68
 go_wp2_with (first
  | (go_at_call 95;refine K.mono ?_;clear K;rintro e w1 ⟨ad,cap,xs,rfl,hK,hx,ho,hA,hB⟩;have K2:=sortH ho (by omega))
  | (go_at_call 96;refine K2.mono ?_;clear K2;rintro e w2 ⟨rfl,ys,hp,hs,ho2,hw2⟩))
 go_ret
 have hl:ys.length=xs.length:=hp.length_eq;have hK2:=hK.perm hp;refine⟨ad,cap,ys,?_,hK2,strict_of hK2.1 hs,by omega,ho2,hA,?_⟩
 ·rw[hl];rfl
 ·exact hB.trans ((hw2.below (B:=w.heap.size) hB.size fun i hi=>hA i hi))
end Go.Proofs.YtnnmdkaoiofabaaGreat.Ru
