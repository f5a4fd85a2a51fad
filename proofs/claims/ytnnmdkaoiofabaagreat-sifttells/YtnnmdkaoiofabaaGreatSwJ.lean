/-
  A map gone through in whatever order; an order laid at the head of a store; a word laid in a store.
-/
import Derived.Test.YtnnmdkaoiofabaaGreatSwGI
import Derived.Test.YtnnmdkaoiofabaaGreatMkE
namespace Go.Proofs.YtnnmdkaoiofabaaGreat.Sw
open Go Go.RowKit
structure Iter (w:World) (it b:Nat) (l:List (Value×Value)) (vs:List Value):Prop where
 ex:∃es clock seen,w.heap[b]? = some (.map es clock)∧MapIs es clock l∧w.heap[it]? = some (.mapIter (some b) clock seen clock)∧∃vis:List MapEntry,vis.map (·.key)=vs∧seen.toList=vis.map (·.born)∧(∀x∈vis,x∈es.toList)∧(vis.map (·.born)).Nodup
theorem Iter.start {w:World}(t K V:TypeId) (ht:Tryz.prog.underlying t=some (.map K V)){b:Nat}{es:Array MapEntry}{clock:Nat}{l:List (Value×Value)}(hb:w.heap[b]? = some (.map es clock)) (k:MapIs es clock l) :
  (Instr.range t (.map (some b))).run Tryz.prog w = .ok (.pointer (some ⟨w.heap.size,0,none⟩)) (w.alloc (.mapIter (some b) clock #[] clock))∧Iter (w.alloc (.mapIter (some b) clock #[] clock)) w.heap.size b l []:=by
 have hlt:b<w.heap.size:=(Array.getElem?_eq_some_iff.1 hb).1;refine⟨run_range_map w t K V b es clock ht hb,⟨es,clock,#[],?_,k,(MapKept.heap_alloc w _).1,[],rfl,rfl,by simp,by simp⟩⟩;exact(Below.heap_alloc w _ b hlt).trans hb
theorem Iter.same {w u:World}{it b:Nat}{l:List (Value×Value)}{vs:List Value}(h:Iter w it b l vs) (e1:u.heap[b]? = w.heap[b]?) (e2:u.heap[it]? = w.heap[it]?):Iter u it b l vs:=by
 obtain⟨es,clock,seen,h1,h2,h3,h4⟩:=h.ex;exact⟨es,clock,seen,e1.trans h1,h2,e2.trans h3,h4⟩
theorem Iter.blocks {w:World}{it b:Nat}{l:List (Value×Value)}{vs:List Value}(h:Iter w it b l vs):∃es clock seen,w.heap[b]? = some (.map es clock)∧w.heap[it]? = some (.mapIter (some b) clock seen clock):=by
 obtain⟨es,clock,seen,h1,h2,h3,h4⟩:=h.ex;exact⟨es,clock,seen,h1,h3⟩
theorem key_at {es:List MapEntry}{l:List (Value×Value)}(h:es.map (fun e=>(e.key,e.val))=l){e:MapEntry}(he:e∈es):(e.key,e.val)∈l:=by
 rw[← h];exact List.mem_map.2 ⟨e,he,rfl⟩
theorem keys_inj {es:List MapEntry}{l:List (Value×Value)}(h:es.map (fun e=>(e.key,e.val))=l) (hn:(l.map (·.1)).Nodup){x y:MapEntry}(hx:x∈es) (hy:y∈es) (e:x.key=y.key):x=y:=by
 subst h;rw[List.map_map]at hn;obtain⟨i,hi⟩:=List.mem_iff_getElem?.1 hx;obtain⟨j,hj⟩:=List.mem_iff_getElem?.1 hy;have e1:(es.map ((fun p:Value×Value=>p.1) ∘ fun e=>(e.key,e.val)))[i]? = some x.key:=by simp[hi]
 have e2:(es.map ((fun p:Value×Value=>p.1) ∘ fun e=>(e.key,e.val)))[j]? = some x.key:=by simp[hj,e]
 have hij:i=j:=(List.getElem?_inj (List.getElem?_eq_some_iff.1 e1).1 hn).1 (e1.trans e2.symm);subst hij;exact Option.some.inj (hi.symm.trans hj)
theorem Iter.next {w:World}{it b:Nat}{l:List (Value×Value)}{vs:List Value}(h:Iter w it b l vs) (ty:TypeId) :
  ((∀p∈l,p.1∈vs)∧(Instr.next (.pointer (some ⟨it,0,none⟩)) false ty).run Tryz.prog w = .ok (.tuple #[.bool false]) w) ∨
  ∃(t v:Value) (w':World),(t,v)∈l∧t ∉ vs∧(Instr.next (.pointer (some ⟨it,0,none⟩)) false ty).run Tryz.prog w = .ok (.tuple #[.bool true,t,v]) w'∧Iter w' it b l (vs ++ [t])∧Went (fun k=>k=it) w w'∧w'.heap.size=w.heap.size∧(Instr.entry (.pointer (some ⟨it,0,none⟩))).run Tryz.prog w' = .ok (.tuple #[t,v]) w':=by
 obtain⟨es,clock,seen,hb,k,hi,vis,hv1,hv2,hv3,hv4⟩:=h.ex;have hne:it≠b:=fun e=>by rw[e,hb]at hi;cases hi
 have hold:=k.old;have hcont:∀x:MapEntry,x∈es.toList→(seen.contains x.born=true↔x∈vis):=by
  intro x hx;rw[Array.contains_iff_mem,← Array.mem_toList_iff,hv2,List.mem_map];constructor
  ·rintro⟨y,hy,e⟩;rw[← born_inj k.once (hv3 y hy) hx e];exact hy
  ·intro hxv;exact⟨x,hxv,rfl⟩
 simp only[Instr.next,getObj,Sem.run_bind,Sem.run,hi,hb,Result.andThen,next_test_false seen es clock clock hold (Nat.le_refl _),Bool.false_eq_true,if_false];have hL:∀x,x∈(Array.filter (fun e=>!seen.contains e.born) es).toList↔x∈es.toList∧x ∉ vis:=by
  intro x;rw[Array.mem_toList_iff,Array.mem_filter,Array.mem_toList_iff];constructor
  ·rintro⟨h1,h2⟩;refine⟨h1,fun hxv=>?_⟩;have:=(hcont x (Array.mem_toList_iff.2 h1)).2 hxv;rw[this]at h2;cases h2
  ·rintro⟨h1,h2⟩;refine⟨h1,?_⟩;cases hc:seen.contains x.born with
   | false=>rfl
   | true=>exact absurd ((hcont x (Array.mem_toList_iff.2 h1)).1 hc) h2
 generalize Array.filter (fun e=>!seen.contains e.born) es=L at hL;have hmem:∀x∈L.toList,x.born<clock:=fun x hx=>hold x ((hL x).1 hx).1
 have e1:L.filter (fun x=>decide (x.born<clock))=L:=Array.filter_eq_self.2 (fun x hx=>by simpa using hmem x (by simpa using hx));have e2:L.filter (fun x=>decide (x.born≥clock))=#[]:=by
  rw[Array.filter_eq_empty_iff];intro x hx;have:=hmem x (by simpa using hx);simp;omega
 simp only[e1,e2,Array.append_empty];by_cases h0:L.size=0
 ·left
  have:L=#[]:=Array.eq_empty_of_size_eq_zero h0;subst this;refine⟨fun p hp=>?_,by simp[choose,Sem.run,Question.forced]⟩;have hk:p∈es.toList.map (fun e=>(e.key,e.val)):=by rw[k.pairs];exact hp
  obtain⟨x,hx,hxk⟩:=List.mem_map.1 hk;have hxv:x∈vis:=by
   apply Classical.byContradiction;intro hn;have:=(hL x).2 ⟨hx,hn⟩;simp at this
  have:x.key∈vis.map (·.key):=List.mem_map.2 ⟨x,hxv,rfl⟩;rw[hv1]at this;rw[← hxk];exact this
 ·right;have hnem:L.isEmpty=false:=by simp[Array.isEmpty,h0]
  simp only[hnem,Bool.false_eq_true,if_false,Array.empty_append,Array.size_map];have hch:∃(j:Nat) (w1:World),j<L.size∧w1.Alike w∧w1.tape=w.tape∧(choose (Question.mapNext L.size)).run Tryz.prog w = .ok j w1:=by
   by_cases hf:L.size≤1
   ·exact⟨0,w,by omega,⟨rfl,rfl,rfl⟩,rfl,by simp[choose,Sem.run,Question.forced,hf]⟩
   ·exact⟨_,w.drew,Nat.mod_lt _ (by omega),⟨rfl,rfl,rfl⟩,rfl,by
     simp only[choose,Sem.run,Question.forced,decide_eq_true_eq,hf,if_false,Question.cut];rfl⟩
  obtain⟨j,w1,hj,hal,htape,hrun⟩:=hch;have hjm:L[j]∈L.toList:=by simp
  obtain⟨hje,hjv⟩:=(hL _).1 hjm;have hp:=key_at k.pairs hje;have hi1:w1.heap[it]? = some (.mapIter (some b) clock seen clock):=by rw[hal.1];exact hi
  have hb1:w1.heap[b]? = some (.map es clock):=by rw[hal.1];exact hb
  have hset:∀o':Obj,(setObj it o').run Tryz.prog w1 = .ok () { w1 with heap:=w1.heap.setIfInBounds it o' }:=fun o'=>by
   simp[setObj,Sem.run,hi1]
  have hit':=heap_now (o':=.mapIter (some b) clock (seen.push L[j].born) clock) hi1;have hb':({ w1 with heap:=w1.heap.setIfInBounds it (.mapIter (some b) clock (seen.push L[j].born) clock) }:World).heap[b]? = some (.map es clock):=by
   simp only[Array.getElem?_setIfInBounds_ne hne];exact hb1
  refine⟨L[j].key,L[j].val,{ w1 with heap:=w1.heap.setIfInBounds it (.mapIter (some b) clock (seen.push L[j].born) clock) },hp,fun htv=>?_,?_,⟨es,clock,_,hb',k,hit',vis ++ [L[j]],?_,?_,?_,?_⟩,?_,?_,?_⟩
  ·have:L[j].key∈vis.map (·.key):=by rw[hv1];exact htv
   obtain⟨y,hy,hyk⟩:=List.mem_map.1 this;have:=keys_inj k.pairs k.nodup (hv3 y hy) hje hyk;exact hjv (this ▸ hy)
  ·simp only[hrun,Array.getElem?_map,Array.getElem?_eq_getElem hj,Option.map_some,Sem.run_bind,hset,Result.andThen];rfl
  ·simp[hv1]
  ·simp[hv2]
  ·intro x hx;rcases List.mem_append.1 hx with hx|hx
   ·exact hv3 x hx
   ·simp at hx;subst hx;exact hje
  ·rw[List.map_append,List.nodup_append];refine⟨hv4,by simp,fun a ha c hc=>?_⟩;simp at hc;subst hc;obtain⟨y,hy,rfl⟩:=List.mem_map.1 ha;intro e;exact hjv (born_inj k.once (hv3 y hy) hje e ▸ hy)
  ·have ht2:=heap_turn (w:=w1) (b:=it) (o':=.mapIter (some b) clock (seen.push L[j].born) clock);refine⟨hal.2.1,htape,hal.2.2,?_,fun i hi2 hne2=>?_⟩
   ·rw[← hal.1];exact Nat.le_of_eq ht2.size.symm
   ·exact(ht2.block i hne2).trans (by rw[hal.1])
  ·simp[hal.1]
  ·have hf:es.find? (·.born == L[j].born)=some L[j]:=by rw[← Array.find?_toList];exact find_born L[j] es.toList k.once hje
   simp only[Instr.entry,getObj,Sem.run_bind,Sem.run,hit',hb',Result.andThen,Array.back?_push,bne_self_eq_false,Bool.false_eq_true,if_false,hf];rfl
section
variable {w:World}{S P n:Nat}{v l:Nat→Nat}{C:Nat→Value}
theorem turned_set (w:World) (b k:Nat) (v:Value):Rf.Turned b w (w.setCell ⟨b,k,none⟩ v):=⟨rfl,rfl,rfl,by simp[World.setCell],fun _ _ hj=>Below.heap_setCell _ _ _ _ hj⟩
theorem turned_trans {w w' w'':World}{b:Nat}(h:Rf.Turned b w w') (k:Rf.Turned b w' w''):Rf.Turned b w w'':=
 ⟨k.os.trans h.os,k.tape.trans h.tape,k.output.trans h.output,Nat.le_trans h.size k.size,fun j hj hne=>(k.block j (Nat.lt_of_lt_of_le hj h.size) hne).trans (h.block j hj hne)⟩
def layS (S:Nat) (z:Nat→Int):Nat→World→World
 | 0,w=>w
 | j+1,w=>(layS S z j w).setCell ⟨S,j,none⟩ (.int .i64 (z j))
theorem layS_row (h:w.rowIs S 92 29 C) (z:Nat→Int):∀j,(layS S z j w).rowIs S 92 29 (fun i=>if i<j then .int .i64 (z i)else C i)∧Rf.Turned S w (layS S z j w)
 | 0=>⟨h.congr fun i _=>by rw[if_neg (by omega)],⟨rfl,rfl,rfl,Nat.le_refl _,fun _ _ _=>rfl⟩⟩
 | j+1=>by
  obtain⟨r,t⟩:=layS_row h z j;refine⟨(r.set j (.int .i64 (z j))).congr fun i _=>?_,turned_trans t (turned_set _ _ _ _)⟩;by_cases e:i=j
  ·rw[if_pos e,if_pos (by omega),e]
  ·rw[if_neg e];by_cases q:i<j
   ·rw[if_pos q,if_pos (by omega)]
   ·rw[if_neg q,if_neg (by omega)]
set_option maxRecDepth 100000 in
theorem ord_run (h:w.rowIs S 92 29 C) (z:Nat→Int):(Instr.storeAt 83 (.pointer (some ⟨S,0,none⟩)) (.agg #[.int .i64 (z 0),.int .i64 (z 1),.int .i64 (z 2),.int .i64 (z 3),.int .i64 (z 4),.int .i64 (z 5),.int .i64 (z 6),.int .i64 (z 7),.int .i64 (z 8),.int .i64 (z 9),.int .i64 (z 10),.int .i64 (z 11),.int .i64 (z 12),.int .i64 (z 13),.int .i64 (z 14),.int .i64 (z 15),.int .i64 (z 16)])).run Tryz.prog w = .ok () (layS S z 17 w):=by
 have c0:=h.cell (i:=0) (by omega);have c1:=h.cell (i:=1) (by omega);have c2:=h.cell (i:=2) (by omega);have c3:=h.cell (i:=3) (by omega);have c4:=h.cell (i:=4) (by omega);have c5:=h.cell (i:=5) (by omega);have c6:=h.cell (i:=6) (by omega);have c7:=h.cell (i:=7) (by omega);have c8:=h.cell (i:=8) (by omega);have c9:=h.cell (i:=9) (by omega);have c10:=h.cell (i:=10) (by omega);have c11:=h.cell (i:=11) (by omega);have c12:=h.cell (i:=12) (by omega);have c13:=h.cell (i:=13) (by omega);have c14:=h.cell (i:=14) (by omega);have c15:=h.cell (i:=15) (by omega);have c16:=h.cell (i:=16) (by omega)
 have fz:∀i,w.frozen? ⟨S,i,none⟩=false:=h.frozen;go_simp
 rfl
theorem ord_store (h:w.rowIs S 92 29 C) (n:Nat) (v l:Nat→Nat):∃w',(Instr.storeAt 83 (.pointer (some ⟨S,0,none⟩)) (.agg #[Od.ordCell n v l 0,Od.ordCell n v l 1,Od.ordCell n v l 2,Od.ordCell n v l 3,Od.ordCell n v l 4,Od.ordCell n v l 5,Od.ordCell n v l 6,Od.ordCell n v l 7,Od.ordCell n v l 8,Od.ordCell n v l 9,Od.ordCell n v l 10,Od.ordCell n v l 11,Od.ordCell n v l 12,Od.ordCell n v l 13,Od.ordCell n v l 14,Od.ordCell n v l 15,Od.ordCell n v l 16])).run Tryz.prog w = .ok () w'∧w'.rowIs S 92 29 (fun i=>if i<17 then Od.ordCell n v l i else C i)∧Rf.Turned S w w':=by
 obtain⟨z,hz⟩:∃z:Nat→Int,∀i,Od.ordCell n v l i = .int .i64 (z i):=⟨fun i=>((if i=0 then n else if i<9 then v (i-1)else l (i-9):Nat):Int),fun _=>rfl⟩
 simp only[hz];obtain⟨r,t⟩:=layS_row h z 17;exact⟨layS S z 17 w,ord_run h z,r,t⟩
end
end Go.Proofs.YtnnmdkaoiofabaaGreat.Sw
