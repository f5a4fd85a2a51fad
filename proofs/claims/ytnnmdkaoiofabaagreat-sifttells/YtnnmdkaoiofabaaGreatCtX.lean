/-
  Maps from handles to numbers: what is looked up and laid; their entries, gone through in whatever order. How often, on what, where first a node's function is true, told from the constants up; which nodes are reached. No program is walked here.
-/
import Derived.Test.YtnnmdkaoiofabaaGreatLgc
import Derived.MapKept
import Derived.Laws.IdiomRangeMap
namespace Go.Proofs.YtnnmdkaoiofabaaGreat.Hm
open Go Go.RowKit
def look : List (Int×Int)→Int→Option Int
 | [],_=>none
 | p :: l,k=>if p.1=k then some p.2 else look l k
theorem look_none {k:Int}:∀{l:List (Int×Int)},look l k=none↔∀p∈l,p.1≠k
 | []=>by simp[look]
 | p :: l=>by
  have:=look_none (k:=k) (l:=l);by_cases h:p.1=k
  ·simp[look,h]
  ·simp[look,h,this]
theorem look_append (k:Int) (v:Int) (k':Int):∀(l:List (Int×Int)),look l k=none→look (l ++ [(k,v)]) k'=if k'=k then some v else look l k'
 | [],_=>by
  by_cases h:k'=k
  ·simp[look,h]
  ·have h':¬k=k':=fun e=>h e.symm
   simp[look,h,h']
 | p :: l,h=>by
  have hp:p.1≠k:=look_none.1 h p (by simp);have hl:look l k=none:=look_none.2 fun q hq=>look_none.1 h q (by simp[hq])
  have:=look_append k v k' l hl;by_cases e:p.1=k'
  ·have:k'≠k:=fun x=>hp (e.trans x)
   simp[look,e,this]
  ·simp[look,e,this]
theorem look_set (k v v0 k':Int):∀(l:List (Int×Int)) (j:Nat),(l.map (·.1)).Nodup→l[j]? = some (k,v0)→look (l.set j (k,v)) k'=if k'=k then some v else look l k'
 | [],j,_,h=>by simp at h
 | p :: l,0,_,h=>by
  obtain rfl:p=(k,v0):=by simpa using h
  by_cases e:k'=k
  ·simp[look,e]
  ·have e':¬k=k':=fun x=>e x.symm
   simp[look,e,e']
 | p :: l,j+1,hn,h=>by
  have h':l[j]? = some (k,v0):=by simpa using h
  have hn':(l.map (·.1)).Nodup:=(List.nodup_cons.1 (by simpa using hn)).2;have hp:p.1≠k:=fun e=>(List.nodup_cons.1 (show (p.1 :: l.map (·.1)).Nodup by simpa using hn)).1 (e ▸ List.mem_map.2 ⟨_,List.mem_of_getElem? h',rfl⟩)
  have:=look_set k v v0 k' l j hn' h';by_cases e:p.1=k'
  ·have:k'≠k:=fun x=>hp (e.trans x)
   simp[look,e,this]
  ·simp[look,e,this]
def pairV (p:Int×Int):Value×Value:=(.int .u32 p.1,.int .i64 p.2)
theorem find_spec (k:Int):∀(es:List MapEntry) (l:List (Int×Int)) (i:Nat),es.map (fun e=>(e.key,e.val))=l.map pairV →
  (Instr.findNow (.int .u32) (.int .u32 k) es i=some none∧look l k=none)∨∃(j:Nat) (v:Int),Instr.findNow (.int .u32) (.int .u32 k) es i=some (some (i+j,.int .i64 v))∧l[j]? = some (k,v)∧look l k=some v
 | [],l,i,h=>by
  cases l with
  | nil=>exact .inl ⟨rfl,rfl⟩
  | cons p l=>simp at h
 | e :: es,l,i,h=>by
  cases l with
  | nil=>simp at h
  | cons p l =>
   simp only[List.map_cons,List.cons.injEq,pairV,Prod.mk.injEq]at h;obtain⟨⟨h1,h2⟩,h3⟩:=h;by_cases c:p.1=k
   ·refine .inr ⟨0,p.2,?_,by simp[← c],by simp[look,c]⟩;simp[Instr.findNow,h1,h2,Instr.sameNow,c]
   ·have c':(k == p.1)=false:=by
     rw[beq_eq_false_iff_ne];exact fun x=>c x.symm
    rcases find_spec k es l (i+1) h3 with ⟨a,b⟩|⟨j,v,a,b,d⟩
    ·exact .inl ⟨by simp[Instr.findNow,h1,Instr.sameNow,c',a],by simp[look,c,b]⟩
    ·refine .inr ⟨j+1,v,?_,by simpa using b,by simp[look,c,d]⟩;simp[Instr.findNow,h1,Instr.sameNow,c',a];omega
theorem heap_turn {w:World}{b:Nat}{o':Obj}:Went (fun k=>k=b) w { w with heap:=w.heap.setIfInBounds b o' }:=by
 refine⟨rfl,rfl,rfl,by simp,fun i _ hne=>?_⟩;simp[Array.getElem?_setIfInBounds_ne (fun e=>hne e.symm)]
theorem heap_now {w:World}{b:Nat}{o o':Obj}(hb:w.heap[b]? = some o):({ w with heap:=w.heap.setIfInBounds b o' }:World).heap[b]? = some o':=by
 have hlt:b<w.heap.size:=(Array.getElem?_eq_some_iff.1 hb).1;simp[hlt]
structure MapIs (es:Array MapEntry) (clock:Nat) (l:List (Int×Int)):Prop where
 pairs:es.toList.map (fun e=>(e.key,e.val))=l.map pairV
 old:∀x∈es.toList,x.born<clock
 once:(es.toList.map (·.born)).Nodup
 nodup:(l.map (·.1)).Nodup
def IsM (w:World) (b:Nat) (l:List (Int×Int)):Prop:=∃(es:Array MapEntry) (clock:Nat),w.heap[b]? = some (.map es clock)∧MapIs es clock l
section
variable {w u:World}{b:Nat}{l:List (Int×Int)}
theorem IsM.lt (h:IsM w b l):b<w.heap.size:=by
 obtain⟨es,clock,h,_⟩:=h;exact(Array.getElem?_eq_some_iff.1 h).1
theorem IsM.same (h:IsM w b l) (e:u.heap[b]? = w.heap[b]?):IsM u b l:=by
 obtain⟨es,clock,h,k⟩:=h;exact⟨es,clock,e.trans h,k⟩
theorem IsM.below (h:IsM w b l) (k:Below w.heap.size w u):IsM u b l:=h.same (k.block _ h.lt)
theorem IsM.fresh (w:World):IsM (w.alloc (.map #[] 0)) w.heap.size []:=
 ⟨#[],0,(MapKept.heap_alloc w _).1,⟨rfl,by simp,by simp,by simp⟩⟩
end
theorem isKey (k:Int):MapKept.IsKey (.int .u32) (.int .u32 k):=by simp[MapKept.IsKey]
theorem zeroI (w:World):(zeroValue 3).run Tryz.prog w = .ok (.int .i64 0) w:=by kernel_rfl
theorem map_look {w:World}{b:Nat}{l:List (Int×Int)}(t:TypeId) (ht:Tryz.prog.underlying t=some (.map 36 3)) (h:IsM w b l) (k:Int) :
  (Instr.lookup t (.map (some b)) (.int .u32 k) true).run Tryz.prog w = .ok (.tuple #[.int .i64 ((look l k).getD 0),.bool (look l k).isSome]) w:=by
 obtain⟨es,clock,hb,h1⟩:=h;have hc:=MapKept.run_checkKey (w:=w) Tryz.underlying36 (isKey k) es.isEmpty 9999;rcases find_spec k es.toList l 0 h1.pairs with ⟨hf,hn⟩|⟨j,v,hf,hj,hl⟩
 ·have hf':=MapKept.run_findKey (w:=w) Tryz.underlying36 hf;simp only[Instr.lookup,Sem.run_bind,run_underlying ht,Result.andThen_ok,MapKept.run_getObj_map hb,Sem.run_pure,hc,hf',zeroI,hn];rfl
 ·have hf':=MapKept.run_findKey (w:=w) Tryz.underlying36 hf;simp only[Instr.lookup,Sem.run_bind,run_underlying ht,Result.andThen_ok,MapKept.run_getObj_map hb,Sem.run_pure,hc,hf',hl];rfl
theorem pairs_len {es:List MapEntry}{l:List (Int×Int)}(h:es.map (fun e=>(e.key,e.val))=l.map pairV):es.length=l.length:=by
 have:=congrArg List.length h;simpa using this
theorem map_len {w:World}{b:Nat}{l:List (Int×Int)}(t:TypeId) (ht:Tryz.prog.underlying t=some (.map 36 3)) (h:IsM w b l) (ty:TypeId):(Builtin.len_ #[t] ty #[.map (some b)]).run Tryz.prog w = .ok (.int .i64 (l.length:Int)) w:=by
 obtain⟨es,clock,hb,k⟩:=h;have:=pairs_len k.pairs;simp only[Builtin.len_,List.getElem?_toArray,List.getElem?_cons_zero,Sem.run_bind,run_underlying ht,Result.andThen_ok,MapKept.run_getObj_map hb];rw[← this];rfl
theorem map_len_nil (t:TypeId) (ht:Tryz.prog.underlying t=some (.map 36 3)) (w:World) (ty:TypeId):(Builtin.len_ #[t] ty #[.map none]).run Tryz.prog w = .ok (.int .i64 0) w:=by
 simp only[Builtin.len_,List.getElem?_toArray,List.getElem?_cons_zero,Sem.run_bind,run_underlying ht,Result.andThen_ok];rfl
theorem map_put {w:World}{b:Nat}{l:List (Int×Int)}(t:TypeId) (ht:Tryz.prog.underlying t=some (.map 36 3)) (h:IsM w b l) (k v:Int) :
  ∃w',(Instr.mapUpdate t (.map (some b)) (.int .u32 k) (.int .i64 v)).run Tryz.prog w = .ok () w'∧(∃l',IsM w' b l'∧(∀k',look l' k'=if k'=k then some v else look l k')∧(look l k=none→l'=l ++ [(k,v)]))∧Went (fun k=>k=b) w w'∧w'.heap.size=w.heap.size:=by
 obtain⟨es,clock,hb,h1⟩:=h;have hc:=MapKept.run_checkKey (w:=w) Tryz.underlying36 (isKey k) false 9999;rcases find_spec k es.toList l 0 h1.pairs with ⟨hf,hn⟩|⟨j,u,hf,hj,hl⟩
 ·have hf':=MapKept.run_findKey (w:=w) Tryz.underlying36 hf;refine⟨{ w with heap:=w.heap.setIfInBounds b (.map (es.push { key:=.int .u32 k,val:=.int .i64 v,born:=clock }) (clock+1)) },?_,⟨l ++ [(k,v)],⟨_,_,heap_now hb,⟨?_,?_,?_,?_⟩⟩,?_,fun _=>rfl⟩,heap_turn,by simp⟩
  ·simp only[Instr.mapUpdate,Sem.run_bind,run_underlying ht,Result.andThen_ok,MapKept.run_getObj_map hb,hc,hf'];exact MapKept.run_setObj_map _ hb
  ·simp[h1.pairs,pairV]
  ·intro x hx;simp at hx;rcases hx with hx|rfl
   ·have:=h1.old x (by simpa using hx);omega
   ·simp
  ·rw[Array.toList_push,List.map_append,List.nodup_append];refine⟨h1.once,by simp,fun a ha c hc'=>?_⟩;simp at hc';subst hc';obtain⟨x,hx,rfl⟩:=List.mem_map.1 ha;have:=h1.old x hx;omega
  ·rw[List.map_append,List.nodup_append];refine⟨h1.nodup,by simp,fun a ha c hc'=>?_⟩;simp at hc';subst hc';obtain⟨p,hp,rfl⟩:=List.mem_map.1 ha;exact look_none.1 hn p hp
  ·intro k';rw[look_append k v k' l hn]
 ·have hf':=MapKept.run_findKey (w:=w) Tryz.underlying36 hf;rw[Nat.zero_add]at hf';have hjk:(es[j]?).map (fun e=>(e.key,e.val))=some (pairV (k,u)):=by
   have h4:=congrArg (·[j]?) h1.pairs;simp only[List.getElem?_map,hj,Option.map_some]at h4;simpa using h4
  obtain⟨e,he,hek⟩:=Option.map_eq_some_iff.1 hjk;simp only[pairV,Prod.mk.injEq]at hek;have hks:=MapKept.run_keyThatStays (P:=Tryz.prog) (w:=w) (isKey k);have hb2:(es.modify j fun e=>{ e with key:=.int .u32 k,val:=.int .i64 v }).toList.map (·.born)=es.toList.map (·.born):=by
   rw[Array.toList_modify];apply List.ext_getElem?;intro i;simp only[List.getElem?_map,List.getElem?_modify];by_cases e2:j=i
   ·subst e2;simp only[if_true];cases es.toList[j]? <;> rfl
   ·simp[e2]
  refine⟨{ w with heap:=w.heap.setIfInBounds b (.map (es.modify j fun e=>{ e with key:=.int .u32 k,val:=.int .i64 v }) clock) },?_,⟨l.set j (k,v),⟨_,_,heap_now hb,⟨?_,?_,by rw[hb2];exact h1.once,?_⟩⟩,?_,fun q=>by rw[hl]at q;cases q⟩,heap_turn,by simp⟩
  ·simp only[Instr.mapUpdate,Sem.run_bind,run_underlying ht,Result.andThen_ok,MapKept.run_getObj_map hb,hc,hf',he,Option.map_some,Option.getD_some,hek.1,hks];exact MapKept.run_setObj_map _ hb
  ·rw[Array.toList_modify];apply List.ext_getElem?;intro i;have h4:=congrArg (·[i]?) h1.pairs;simp only[List.getElem?_map]at h4;simp only[List.getElem?_map,List.getElem?_modify,List.getElem?_set];by_cases e2:j=i
   ·subst e2;have hlt:j<l.length:=(List.getElem?_eq_some_iff.1 hj).1;have he2:es.toList[j]? = some e:=by simpa using he
    simp[hlt,he2,pairV]
   ·simp only[e2,if_false];rw[← h4];simp
  ·intro x hx;have hx2:x.born∈(es.modify j fun e=>{ e with key:=.int .u32 k,val:=.int .i64 v }).toList.map (·.born):=List.mem_map.2 ⟨x,hx,rfl⟩;rw[hb2]at hx2;obtain⟨y,hy,hyx⟩:=List.mem_map.1 hx2;rw[← hyx];exact h1.old y hy
  ·have:(l.set j (k,v)).map (·.1)=l.map (·.1):=by
    apply List.ext_getElem?;intro i;simp only[List.getElem?_map,List.getElem?_set];by_cases e2:j=i
    ·subst e2;have hlt:j<l.length:=(List.getElem?_eq_some_iff.1 hj).1;have hj':l[j]=(k,u):=Option.some.inj ((List.getElem?_eq_getElem hlt).symm.trans hj);simp[hlt,hj']
    ·simp[e2]
   rw[this];exact h1.nodup
  ·intro k';rw[look_set k v u k' l j h1.nodup hj]
structure Iter (w:World) (it b:Nat) (l:List (Int×Int)) (vs:List Int):Prop where
 ex:∃es clock seen,w.heap[b]? = some (.map es clock)∧MapIs es clock l∧w.heap[it]? = some (.mapIter (some b) clock seen clock)∧∃vis:List MapEntry,vis.map (·.key)=vs.map (Value.int .u32)∧seen.toList=vis.map (·.born)∧(∀x∈vis,x∈es.toList)∧(vis.map (·.born)).Nodup
theorem Iter.start {w:World}(t:TypeId) (ht:Tryz.prog.underlying t=some (.map 36 3)){b:Nat}{es:Array MapEntry}{clock:Nat}{l:List (Int×Int)}(hb:w.heap[b]? = some (.map es clock)) (k:MapIs es clock l) :
  (Instr.range t (.map (some b))).run Tryz.prog w = .ok (.pointer (some ⟨w.heap.size,0,none⟩)) (w.alloc (.mapIter (some b) clock #[] clock))∧Iter (w.alloc (.mapIter (some b) clock #[] clock)) w.heap.size b l []:=by
 have hlt:b<w.heap.size:=(Array.getElem?_eq_some_iff.1 hb).1;refine⟨run_range_map w t 36 3 b es clock ht hb,⟨es,clock,#[],?_,k,(MapKept.heap_alloc w _).1,[],rfl,rfl,by simp,by simp⟩⟩;exact(Below.heap_alloc w _ b hlt).trans hb
theorem Iter.same {w u:World}{it b:Nat}{l:List (Int×Int)}{vs:List Int}(h:Iter w it b l vs) (e1:u.heap[b]? = w.heap[b]?) (e2:u.heap[it]? = w.heap[it]?):Iter u it b l vs:=by
 obtain⟨es,clock,seen,h1,h2,h3,h4⟩:=h.ex;exact⟨es,clock,seen,e1.trans h1,h2,e2.trans h3,h4⟩
theorem Iter.blocks {w:World}{it b:Nat}{l:List (Int×Int)}{vs:List Int}(h:Iter w it b l vs):∃es clock seen,w.heap[b]? = some (.map es clock)∧w.heap[it]? = some (.mapIter (some b) clock seen clock):=by
 obtain⟨es,clock,seen,h1,h2,h3,h4⟩:=h.ex;exact⟨es,clock,seen,h1,h3⟩
theorem key_at {es:List MapEntry}{l:List (Int×Int)}(h:es.map (fun e=>(e.key,e.val))=l.map pairV){e:MapEntry}(he:e∈es):∃p∈l,e.key = .int .u32 p.1∧e.val = .int .i64 p.2:=by
 have:(e.key,e.val)∈es.map (fun e=>(e.key,e.val)):=List.mem_map.2 ⟨e,he,rfl⟩;rw[h]at this;obtain⟨p,hp,hk⟩:=List.mem_map.1 this;simp only[pairV,Prod.mk.injEq]at hk;exact⟨p,hp,hk.1.symm,hk.2.symm⟩
theorem keys_inj {es:List MapEntry}{l:List (Int×Int)}(h:es.map (fun e=>(e.key,e.val))=l.map pairV) (hn:(l.map (·.1)).Nodup){x y:MapEntry}(hx:x∈es) (hy:y∈es) (e:x.key=y.key):x=y:=by
 obtain⟨i,hi⟩:=List.mem_iff_getElem?.1 hx;obtain⟨j,hj⟩:=List.mem_iff_getElem?.1 hy;have h1:=congrArg (·[i]?) h;have h2:=congrArg (·[j]?) h;simp only[List.getElem?_map,hi,hj,Option.map_some]at h1 h2;obtain⟨s,hs1,hs2⟩:=Option.map_eq_some_iff.1 h1.symm;obtain⟨t,ht1,ht2⟩:=Option.map_eq_some_iff.1 h2.symm;simp only[pairV,Prod.mk.injEq]at hs2 ht2;have hst:s.1=t.1:=by
  have:Value.int .u32 s.1=Value.int .u32 t.1:=by rw[hs2.1,ht2.1,e]
  injection this
 have hij:i=j:=by
  have e1:(l.map (·.1))[i]? = some s.1:=by simp[hs1]
  have e2:(l.map (·.1))[j]? = some s.1:=by simp[ht1,hst]
  exact(List.getElem?_inj (List.getElem?_eq_some_iff.1 e1).1 hn).1 (e1.trans e2.symm)
 subst hij;exact Option.some.inj (hi.symm.trans hj)
theorem Iter.next {w:World}{it b:Nat}{l:List (Int×Int)}{vs:List Int}(h:Iter w it b l vs) (ty:TypeId) :
  ((∀p∈l,p.1∈vs)∧(Instr.next (.pointer (some ⟨it,0,none⟩)) false ty).run Tryz.prog w = .ok (.tuple #[.bool false]) w) ∨
  ∃(t v:Int) (w':World),(t,v)∈l∧t ∉ vs∧(Instr.next (.pointer (some ⟨it,0,none⟩)) false ty).run Tryz.prog w = .ok (.tuple #[.bool true,.int .u32 t,.int .i64 v]) w'∧Iter w' it b l (vs ++ [t])∧Went (fun k=>k=it) w w'∧w'.heap.size=w.heap.size∧(Instr.entry (.pointer (some ⟨it,0,none⟩))).run Tryz.prog w' = .ok (.tuple #[.int .u32 t,.int .i64 v]) w':=by
 obtain⟨es,clock,seen,hb,k,hi,vis,hv1,hv2,hv3,hv4⟩:=h.ex;have hne:it≠b:=fun e=>by rw[e,hb]at hi;cases hi
 have hold:=k.old;have hcont:∀x:MapEntry,x∈es.toList→(seen.contains x.born=true↔x∈vis):=by
  intro x hx;rw[Array.contains_iff_mem,← Array.mem_toList_iff,hv2,List.mem_map];constructor
  ·rintro⟨y,hy,e⟩;rw[← born_inj k.once (hv3 y hy) hx e];exact hy
  ·intro hxv;exact⟨x,hxv,rfl⟩
 simp only[Instr.next,getObj,Sem.run_bind,Sem.run,hi,hb,Result.andThen,next_test_false seen es clock clock hold (Nat.le_refl _),Bool.false_eq_true,if_false];have hL:∀x,x∈(Array.filter (fun e=>!seen.contains e.born) es).toList↔x∈es.toList∧x ∉ vis:=by
  intro x;rw[Array.mem_toList_iff,Array.mem_filter,Array.mem_toList_iff];constructor
  ·rintro⟨h1,h2⟩;refine⟨h1,fun hxv=>?_⟩;have:=(hcont x (Array.mem_toList_iff.2 h1)).2 hxv;rw[this]at h2;cases h2
  ·rintro⟨h1,h2⟩;refine⟨h1,?_⟩;cases hc:seen.contains x.born with
   | false=>rfl
   | true=>exact absurd ((hcont x (Array.mem_toList_iff.2 h1)).1 hc) h2
 generalize Array.filter (fun e=>!seen.contains e.born) es=L at hL;have hmem:∀x∈L.toList,x.born<clock:=fun x hx=>hold x ((hL x).1 hx).1
 have e1:L.filter (fun x=>decide (x.born<clock))=L:=Array.filter_eq_self.2 (fun x hx=>by simpa using hmem x (by simpa using hx));have e2:L.filter (fun x=>decide (x.born≥clock))=#[]:=by
  rw[Array.filter_eq_empty_iff];intro x hx;have:=hmem x (by simpa using hx);simp;omega
 simp only[e1,e2,Array.append_empty];by_cases h0:L.size=0
 ·left
  have:L=#[]:=Array.eq_empty_of_size_eq_zero h0;subst this;refine⟨fun p hp=>?_,by simp[choose,Sem.run,Question.forced]⟩;have hk:pairV p∈es.toList.map (fun e=>(e.key,e.val)):=by rw[k.pairs];exact List.mem_map.2 ⟨p,hp,rfl⟩
  obtain⟨x,hx,hxk⟩:=List.mem_map.1 hk;simp only[pairV,Prod.mk.injEq]at hxk;have hxv:x∈vis:=by
   apply Classical.byContradiction;intro hn;have:=(hL x).2 ⟨hx,hn⟩;simp at this
  have:x.key∈vis.map (·.key):=List.mem_map.2 ⟨x,hxv,rfl⟩;rw[hv1,hxk.1]at this;obtain⟨u,hu,hue⟩:=List.mem_map.1 this;injection hue with _ hue
  rw[← hue];exact hu
 ·right;have hnem:L.isEmpty=false:=by simp[Array.isEmpty,h0]
  simp only[hnem,Bool.false_eq_true,if_false,Array.empty_append,Array.size_map];have hch:∃(j:Nat) (w1:World),j<L.size∧w1.Alike w∧w1.tape=w.tape∧(choose (Question.mapNext L.size)).run Tryz.prog w = .ok j w1:=by
   by_cases hf:L.size≤1
   ·exact⟨0,w,by omega,⟨rfl,rfl,rfl⟩,rfl,by simp[choose,Sem.run,Question.forced,hf]⟩
   ·exact⟨_,w.drew,Nat.mod_lt _ (by omega),⟨rfl,rfl,rfl⟩,rfl,by
     simp only[choose,Sem.run,Question.forced,decide_eq_true_eq,hf,if_false,Question.cut];rfl⟩
  obtain⟨j,w1,hj,hal,htape,hrun⟩:=hch;have hjm:L[j]∈L.toList:=by simp
  obtain⟨hje,hjv⟩:=(hL _).1 hjm;obtain⟨p,hp,hkt,hkv⟩:=key_at k.pairs hje;have hi1:w1.heap[it]? = some (.mapIter (some b) clock seen clock):=by rw[hal.1];exact hi
  have hb1:w1.heap[b]? = some (.map es clock):=by rw[hal.1];exact hb
  have hset:∀o':Obj,(setObj it o').run Tryz.prog w1 = .ok () { w1 with heap:=w1.heap.setIfInBounds it o' }:=fun o'=>by
   simp[setObj,Sem.run,hi1]
  have hit':=heap_now (o':=.mapIter (some b) clock (seen.push L[j].born) clock) hi1;have hb':({ w1 with heap:=w1.heap.setIfInBounds it (.mapIter (some b) clock (seen.push L[j].born) clock) }:World).heap[b]? = some (.map es clock):=by
   simp only[Array.getElem?_setIfInBounds_ne hne];exact hb1
  refine⟨p.1,p.2,{ w1 with heap:=w1.heap.setIfInBounds it (.mapIter (some b) clock (seen.push L[j].born) clock) },hp,fun htv=>?_,?_,⟨es,clock,_,hb',k,hit',vis ++ [L[j]],?_,?_,?_,?_⟩,?_,?_,?_⟩
  ·have:Value.int .u32 p.1∈vis.map (·.key):=by rw[hv1];exact List.mem_map.2 ⟨p.1,htv,rfl⟩
   obtain⟨y,hy,hyk⟩:=List.mem_map.1 this;have:=keys_inj k.pairs k.nodup (hv3 y hy) hje (by rw[hyk,hkt]);exact hjv (this ▸ hy)
  ·simp only[hrun,Array.getElem?_map,Array.getElem?_eq_getElem hj,Option.map_some,Sem.run_bind,hset,Result.andThen,hkt,hkv];rfl
  ·simp[hv1,hkt]
  ·simp[hv2]
  ·intro x hx;rcases List.mem_append.1 hx with hx|hx
   ·exact hv3 x hx
   ·simp at hx;subst hx;exact hje
  ·rw[List.map_append,List.nodup_append];refine⟨hv4,by simp,fun a ha c hc=>?_⟩;simp at hc;subst hc;obtain⟨y,hy,rfl⟩:=List.mem_map.1 ha;intro e;exact hjv (born_inj k.once (hv3 y hy) hje e ▸ hy)
  ·have ht2:=heap_turn (w:=w1) (b:=it) (o':=.mapIter (some b) clock (seen.push L[j].born) clock);refine⟨hal.2.1,htape,hal.2.2,?_,fun i hi2 hne2=>?_⟩
   ·rw[← hal.1];exact ht2.size
   ·rw[ht2.block i (by rw[hal.1];exact hi2) hne2,hal.1]
  ·simp[hal.1]
  ·have hf:es.find? (·.born == L[j].born)=some L[j]:=by rw[← Array.find?_toList];exact find_born L[j] es.toList k.once hje
   simp only[Instr.entry,getObj,Sem.run_bind,Sem.run,hit',hb',Result.andThen,Array.back?_push,bne_self_eq_false,Bool.false_eq_true,if_false,hf,hkt,hkv];rfl
end Go.Proofs.YtnnmdkaoiofabaaGreat.Hm
namespace Go.Proofs.YtnnmdkaoiofabaaGreat
open Rf (fixAt fixF countUpto supUpto same)
theorem same_false_iff {F G:Nat→Bool}:same F G=false↔¬Eqt F G:=by
 have:=Rf.same_iff F G;constructor
 ·intro h e;rw[this.2 e]at h;cases h
 ·intro h;cases c:same F G with
  | false=>rfl
  | true=>exact absurd (this.1 c) h
def hangs (F:Nat→Bool) (v:Nat):Bool:=!same (fixF F v false) (fixF F v true)
theorem hangs_iff {F:Nat→Bool}{v:Nat}:hangs F v=true↔¬Eqt (fixF F v false) (fixF F v true):=by
 unfold hangs;rw[Bool.not_eq_true',same_false_iff]
theorem sup_bit (F:Nat→Bool) (j:Nat):∀k,(supUpto F k).testBit j=(decide (j<k) && hangs F j)
 | 0=>by rw[supUpto,Nat.zero_testBit];simp
 | k+1=>by
  rw[supUpto];have ih:=sup_bit F j k;by_cases c:j=k
  ·subst c;cases q:same (fixF F j false) (fixF F j true) with
   | true=>rw[if_pos rfl,ih];unfold hangs;rw[q];simp
   | false=>rw[if_neg (by simp),Nat.testBit_or,ih,Nat.testBit_two_pow_self];unfold hangs;rw[q];simp
  ·have d:decide (j<k+1)=decide (j<k):=by
    by_cases e:j<k
    ·rw[decide_eq_true e,decide_eq_true (by omega)]
    ·rw[decide_eq_false e,decide_eq_false (by omega)]
   have t:(2^k).testBit j=false:=by rw[Nat.testBit_two_pow];exact decide_eq_false (fun e=>c e.symm)
   rw[d,← ih];split
   ·rfl
   ·rw[Nat.testBit_or,t,Bool.or_false]
theorem hangs_congr {F G:Nat→Bool}(e:Eqt F G){v:Nat}(hv:v<8):hangs F v=hangs G v:=by
 have h0:=fixF_congr e hv false;have h1:=fixF_congr e hv true;rw[Bool.eq_iff_iff,hangs_iff,hangs_iff];exact⟨fun h q=>h (h0.trans (q.trans h1.symm)),fun h q=>h (h0.symm.trans (q.trans h1))⟩
section
variable {M:Mdl}{h:Nat}
theorem hangs_own (o:M.Ok) (hm:h∈M.hs):hangs (M.tbl h) (M.v (M.nd h).1)=true:=hangs_iff.2 fun e =>
 o.ne h hm ((Mdl.one_iff o (o.lo h hm).1 (o.hi h hm).1).1 fun x hx=>by rw[tbl_lo o hm x hx,tbl_hi o hm x hx,e x hx])
end
def Closed (M:Mdl) (C:Nat→Prop):Prop:=∀h,C h→((M.nd h).2.1<2∨C (M.nd h).2.1)∧((M.nd h).2.2<2∨C (M.nd h).2.2)
end Go.Proofs.YtnnmdkaoiofabaaGreat
