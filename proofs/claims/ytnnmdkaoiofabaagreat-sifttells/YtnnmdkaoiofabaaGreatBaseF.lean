/-
  A statement that makes several tables at once, in whatever order Go takes its operations: loads, calls that return, new places, stores. A statement whose order Go leaves open, each of whose operations leaves one value: whatever the order, guarded ones among them. A statement whose operations stand in one order, each of which leaves one value, guarded ones among them. Single operations on small numbers and truth values, as rules. Single operations that Parts of the reference makes. Parts of the reference, walked.
-/
import Derived.Test.YtnnmdkaoiofabaaGreatBaseE
namespace Go.Proofs.YtnnmdkaoiofabaaGreat.Rf
open Go Go.RowKit
theorem run_load24 {w:World}{b:Nat}{F:Nat→Bool}(h:IsTab w b F):(Instr.loadAt 24 (.pointer (some ⟨b,0,none⟩))).run Tryz.prog w = .ok (tab F) w:=by
 obtain⟨c0,c1,c2,c3⟩:w.cell? ⟨b,0,none⟩=some (.int .u64 (word F 0:Int))∧w.cell? ⟨b,1,none⟩=some (.int .u64 (word F 1:Int))∧w.cell? ⟨b,2,none⟩=some (.int .u64 (word F 2:Int))∧w.cell? ⟨b,3,none⟩=some (.int .u64 (word F 3:Int)):=⟨h.cell (by decide),h.cell (by decide),h.cell (by decide),h.cell (by decide)⟩
 go_simp
 rfl
theorem run_alloc24 (w:World):(Instr.alloc 24 true (.tuple #[])).run Tryz.prog w = .ok (.pointer (some ⟨w.heap.size,0,none⟩)) (w.alloc (.cells #[.int .u64 0,.int .u64 0,.int .u64 0,.int .u64 0] 24)):=by
 go_simp
theorem run_store24 {w:World}{b:Nat}{F:Nat→Bool}(h:IsTab w b F) (G:Nat→Bool):(Instr.storeAt 24 (.pointer (some ⟨b,0,none⟩)) (tab G)).run Tryz.prog w = .ok () (laid w b G):=by
 obtain⟨c0,c1,c2,c3⟩:w.cell? ⟨b,0,none⟩=some (.int .u64 (word F 0:Int))∧w.cell? ⟨b,1,none⟩=some (.int .u64 (word F 1:Int))∧w.cell? ⟨b,2,none⟩=some (.int .u64 (word F 2:Int))∧w.cell? ⟨b,3,none⟩=some (.int .u64 (word F 3:Int)):=⟨h.cell (by decide),h.cell (by decide),h.cell (by decide),h.cell (by decide)⟩
 have y0:=h.free 0;have y1:=h.free 1;have y2:=h.free 2;have y3:=h.free 3;unfold tab;go_simp
 rfl
section
variable {P:Program}{ops:Array Oper}{Q:Exit→Act→World→Prop}
theorem wpAny_posts' (G:Act→World→Prop) (Post:Nat→Act→World→Prop) (hw:waitsBack ops=true)
  (step:∀i o a w,ops[i]? = some o→G a w→(∀e∈o.after,Region.binds .any e=true→Post e.on a w)→wpOp P ops Q i (fun a' w'=>G a' w'∧Post i a' w'∧∀j o',j≠i→ops[j]? = some o'→(∀e∈o'.after,Region.binds .any e=true→e.on≠i)→Post j a w→Post j a' w') a w)
  (done:∀a w,G a w→(∀i,i<ops.size→Post i a w)→Q .normal a w) :
  ∀(fuel:Nat) (listed:Array Bool) (a:Act) (w:World),listed.size=ops.size→(toCome ops.size listed).length≤fuel→G a w→(∀j,listed.getD j false=true→Post j a w)→(∀j o,listed.getD j false=true→ops[j]? = some o→∀e∈o.after,Region.binds .any e=true→listed.getD e.on false=true)→wpAny P .any ops Q fuel listed a w:=by
 intro fuel;induction fuel with
 | zero =>
  intro listed a w hn hc hG hP _;have hr:Region.ready .any ops listed=[]:=by
   cases hr:Region.ready .any ops listed with
   | nil=>rfl
   | cons i rs =>
    have hi:i∈Region.ready .any ops listed:=by rw[hr];exact List.mem_cons_self
    obtain⟨h1,o,ho,_⟩:=mem_ready.1 hi;have:=toCome_set hn h1;omega
  exact⟨hr,done a w hG fun i hi=>hP i (ready_some hw hn hr i hi)⟩
 | succ fuel ih =>
  intro listed a w hn hc hG hP hL;refine⟨fun hr=>done a w hG fun i hi=>hP i (ready_some hw hn hr i hi),fun i hi=>?_⟩;obtain⟨h1,o,ho,h2⟩:=mem_ready.1 hi;have hil:listed.getD i false=false:=by
   have hlt:i<listed.size:=by rw[hn];exact(Array.getElem?_eq_some_iff.1 ho).1
   simp[hlt]at h1 ⊢;exact h1
  refine wpOp_mono (fun a' w' ⟨g,p,k⟩=>?_) (step i o a w ho hG fun e he hb=>hP _ (h2 e he hb));refine ih _ a' w' (by simpa using hn) ?_ g ?_ ?_
  ·have:=toCome_set hn h1;omega
  ·intro j hj;by_cases e:i=j
   ·subst e;exact p
   ·rw[getD_set_ne false e]at hj;have hjo:∃o',ops[j]? = some o':=by
     have hlt:j<listed.size:=by
      rcases Nat.lt_or_ge j listed.size with h|h
      ·exact h
      ·simp[Array.getElem?_eq_none h]at hj
     exact⟨_,Array.getElem?_eq_getElem (by omega)⟩
    obtain⟨o',ho'⟩:=hjo;refine k j o' (fun h=>e h.symm) ho' (fun ed hed hb heq=>?_) (hP j hj);have:=hL j o' hj ho' ed hed hb;rw[heq,hil]at this;cases this
  ·intro j o' hj ho' ed hed hb;by_cases e:i=j
   ·subst e;obtain rfl:o=o':=Option.some.inj (ho.symm.trans ho');exact getD_set_true (h2 ed hed hb)
   ·rw[getD_set_ne false e]at hj;exact getD_set_true (hL j o' hj ho' ed hed hb)
end
abbrev Kind := (Tmp×Value) ⊕ (Tmp ⊕ (Tmp×(Nat→Bool)))
abbrev Kind.val (d:Tmp) (v:Value):Kind:=Sum.inl (d,v)
abbrev Kind.new (d:Tmp):Kind:=Sum.inr (Sum.inl d)
abbrev Kind.put (p:Tmp) (F:Nat→Bool):Kind:=Sum.inr (Sum.inr (p,F))
theorem Kind.parts {motive:Kind→Prop}(val:∀d v,motive (Kind.val d v)) (new:∀d,motive (Kind.new d)) (put:∀p F,motive (Kind.put p F)):∀k,motive k
 | Sum.inl (d,v)=>val d v
 | Sum.inr (Sum.inl d)=>new d
 | Sum.inr (Sum.inr (p,F))=>put p F
def ptr (b:Nat):Value:=.pointer (some ⟨b,0,none⟩)
theorem ptr_inj {a b:Nat}(h:ptr a=ptr b):a=b:=by simpa[ptr]using h
def slot (a:Act) (s:Tmp):Value:=a.tmps.getD s undef
def Kind.post (base:Nat):Kind→Act→World→Prop
 | Sum.inl (d,v),a,_=>slot a d=v
 | Sum.inr (Sum.inl d),a,w=>∃b F,slot a d=ptr b∧base≤b∧IsTab w b F
 | Sum.inr (Sum.inr (p,F)),a,w=>∃b,slot a p=ptr b∧base≤b∧IsTab w b F
def Kind.place : Kind→Tmp
 | Sum.inl (d,_)=>d
 | Sum.inr (Sum.inl d)=>d
 | Sum.inr (Sum.inr (p,_))=>p
def Kind.dst? : Kind→Option Tmp
 | Sum.inl (d,_)=>some d
 | Sum.inr (Sum.inl d)=>some d
 | Sum.inr (Sum.inr (_,_))=>none
def Kind.new? : Kind→Option Tmp
 | Sum.inr (Sum.inl d)=>some d
 | _=>none
structure Thru (w0:World) (a0:Act) (D A:List Tmp) (a:Act) (w:World):Prop where
 size:a.tmps.size=a0.tmps.size
 defers:a.defers=a0.defers
 other:∀s,s ∉ D→slot a s=slot a0 s
 below:Below w0.heap.size w0 w
 fresh:∀s,s∈A→∀b,slot a s=ptr b→b<w.heap.size
 apart:∀s,s∈A→∀t,t∈A→s≠t→∀b,w0.heap.size≤b→slot a s=ptr b→slot a t≠ptr b
theorem slot_put_eq {a:Act}{d:Tmp}(v:Value) (h:d<a.tmps.size):slot (a.put (some d) v) d=v:=by
 simp[slot,Act.put,h]
theorem slot_put_ne {a:Act}{d s:Tmp}(v:Value) (h:d≠s):slot (a.put (some d) v) s=slot a s:=by
 simp[slot,Act.put,Array.getElem?_setIfInBounds_ne h]
section
variable {w0:World}{a0:Act}{D A:List Tmp}{a:Act}{w w':World}
theorem Thru.val (g:Thru w0 a0 D A a w) (k:Below w.heap.size w w'){d:Tmp}(hd:d∈D) (hA:d ∉ A) (v:Value):Thru w0 a0 D A (a.put (some d) v) w':=by
 refine⟨by simpa[Act.put]using g.size,g.defers,fun s hs=>?_,g.below.trans (k.mono g.below.size),fun s hs b hb=>?_,fun s hs t ht hst b hB hb=>?_⟩
 ·rw[slot_put_ne v (show d≠s from fun e=>hs (e ▸ hd))];exact g.other s hs
 ·rw[slot_put_ne v (show d≠s from fun e=>hA (e ▸ hs))]at hb;exact Nat.lt_of_lt_of_le (g.fresh s hs b hb) k.size
 ·rw[slot_put_ne v (show d≠s from fun e=>hA (e ▸ hs))]at hb;rw[slot_put_ne v (show d≠t from fun e=>hA (e ▸ ht))];exact g.apart s hs t ht hst b hB hb
theorem Thru.new (g:Thru w0 a0 D A a w){d:Tmp}(hd:d∈D) (hlt:d<a.tmps.size) (o:Obj):Thru w0 a0 D A (a.put (some d) (ptr w.heap.size)) (w.alloc o):=by
 have hsz:(w.alloc o).heap.size=w.heap.size+1:=by simp
 refine⟨by simpa[Act.put]using g.size,g.defers,fun s hs=>?_,g.below.alloc g.below.size o,fun s hs b hb=>?_,fun s hs t ht hst b hB hb=>?_⟩
 ·rw[slot_put_ne _ (show d≠s from fun e=>hs (e ▸ hd))];exact g.other s hs
 ·by_cases e:d=s
  ·subst e;rw[slot_put_eq _ hlt]at hb;have:=ptr_inj hb;omega
  ·rw[slot_put_ne _ e]at hb;have:=g.fresh s hs b hb;omega
 ·by_cases e:d=s
  ·subst e;rw[slot_put_eq _ hlt]at hb;have hb':=ptr_inj hb;rw[slot_put_ne _ hst];intro hc;have:=g.fresh t ht b hc;omega
  ·rw[slot_put_ne _ e]at hb;by_cases e2:d=t
   ·subst e2;rw[slot_put_eq _ hlt];intro hc;have:=g.fresh s hs b hb;have:=ptr_inj hc;omega
   ·rw[slot_put_ne _ e2];exact g.apart s hs t ht hst b hB hb
theorem Thru.put (g:Thru w0 a0 D A a w){b:Nat}(hb:w0.heap.size≤b) (F:Nat→Bool):Thru w0 a0 D A a (laid w b F):=by
 have t:=laid_turned w b F;refine⟨g.size,g.defers,g.other,g.below.trans (t.below g.below.size hb),fun s hs c hc=>Nat.lt_of_lt_of_le (g.fresh s hs c hc) t.size,g.apart⟩
end
theorem nodup_place {α β:Type}(f:α→Option β):∀(l:List α),(l.filterMap f).Nodup→∀(i j:Nat) (x y:α) (b:β),l[i]? = some x→l[j]? = some y→f x=some b→f y=some b→i=j
 | [],_,i,_,_,_,_,h,_,_,_=>by simp at h
 | z :: l,hn,i,j,x,y,b,hi,hj,hx,hy=>by
  have mem:∀(k:Nat) (u:α),l[k]? = some u→f u=some b→b∈l.filterMap f:=fun k u hk hu=>List.mem_filterMap.2 ⟨u,List.mem_of_getElem? hk,hu⟩
  cases hz:f z with
  | none =>
   rw[List.filterMap_cons_none hz]at hn;cases i with
   | zero=>simp at hi;subst hi;rw[hz]at hx;cases hx
   | succ i =>
    cases j with
    | zero=>simp at hj;subst hj;rw[hz]at hy;cases hy
    | succ j=>rw[nodup_place f l hn i j x y b (by simpa using hi) (by simpa using hj) hx hy]
  | some c =>
   rw[List.filterMap_cons_some hz,List.nodup_cons]at hn;cases i with
   | zero =>
    simp at hi;subst hi;cases j with
    | zero=>rfl
    | succ j =>
     rw[hz]at hx;obtain rfl:=Option.some.inj hx;exact absurd (mem j y (by simpa using hj) hy) hn.1
   | succ i =>
    cases j with
    | zero =>
     simp at hj;subst hj;rw[hz]at hy;obtain rfl:=Option.some.inj hy;exact absurd (mem i x (by simpa using hi) hx) hn.1
    | succ j=>rw[nodup_place f l hn.2 i j x y b (by simpa using hi) (by simpa using hj) hx hy]
def Kind.put? : Kind→Option Tmp
 | Sum.inr (Sum.inr (p,_))=>some p
 | _=>none
def Kind.ok (ops:Array Oper) (Q:Exit→Act→World→Prop) (w0:World) (a0:Act) (D A:List Tmp) (ks:List Kind) (i:Nat) (k:Kind):Prop:=
 ∃o,ops[i]? = some o∧o.guard=none∧match k with
  | Sum.inl (d,v)=>o.dst=some d∧∀a w,Thru w0 a0 D A a w→(∀e∈o.after,Region.binds .any e=true→∀k',ks[e.on]? = some k'→k'.post w0.heap.size a w)→∀K:Act→World→Prop,(∀w',Below w.heap.size w w'→K (a.put (some d) v) w')→o.wp Tryz.prog a w K Q
  | Sum.inr (Sum.inl d)=>o.dst=some d∧o.op = .alloc 24
  | Sum.inr (Sum.inr (p,F))=>o.dst=none∧∃s,o.op = .store 24 (.tmp p) (.tmp s)∧(∃e∈o.after,Region.binds .any e=true∧ks[e.on]? = some (.val s (tab F)))∧∃e∈o.after,Region.binds .any e=true∧ks[e.on]? = some (.new p)
def kval (bp:Tmp→Nat):Kind→Value
 | Sum.inl (_,v)=>v
 | Sum.inr (Sum.inl d)=>ptr (bp d)
 | Sum.inr (Sum.inr (_,_))=>undef
def fin (bp:Tmp→Nat):List Kind→Act→Act
 | [],a=>a
 | k :: ks,a=>fin bp ks (match k.dst? with|some d=>a.put (some d) (kval bp k)|none=>a)
theorem act_ext {a b:Act}(h1:a.tmps.size=b.tmps.size) (h2:a.defers=b.defers) (h3:∀s,slot a s=slot b s):a=b:=by
 cases a with|mk at' ad=>cases b with|mk bt bd =>
 simp only at h1 h2;subst h2;congr 1;apply Array.ext h1;intro i hi hj;have:=h3 i;simpa[slot,hi,hj]using this
theorem act_fin (bp:Tmp→Nat):∀(ks:List Kind) (a0 a:Act),(ks.filterMap Kind.dst?).Nodup→a.tmps.size=a0.tmps.size→a.defers=a0.defers→(∀s,s ∉ ks.filterMap Kind.dst?→slot a s=slot a0 s)→(∀k∈ks,∀d,k.dst? = some d→d<a0.tmps.size∧slot a d=kval bp k)→a=fin bp ks a0
 | [],a0,a,_,h1,h2,h3,_=>act_ext h1 h2 fun s=>h3 s (by simp)
 | k :: ks,a0,a,hn,h1,h2,h3,h4=>by
  rw[fin];cases hk:k.dst? with
  | none =>
   rw[List.filterMap_cons_none hk]at hn h3;exact act_fin bp ks a0 a hn h1 h2 h3 fun k' hk'=>h4 k' (List.mem_cons_of_mem _ hk')
  | some d =>
   rw[List.filterMap_cons_some hk]at hn h3;have hd:=h4 k List.mem_cons_self d hk;refine act_fin bp ks _ a (List.nodup_cons.1 hn).2 (by simpa[Act.put]using h1) h2 (fun s hs=>?_) (fun k' hk' d' hd'=>?_)
   ·by_cases e:d=s
    ·subst e;rw[slot_put_eq _ hd.1];exact hd.2
    ·rw[slot_put_ne _ e];exact h3 s (by simp only[List.mem_cons,not_or];exact⟨fun q=>e q.symm,hs⟩)
   ·have:=h4 k' (List.mem_cons_of_mem _ hk') d' hd';exact⟨by simpa[Act.put]using this.1,this.2⟩
theorem wpOp_plain {ops:Array Oper}{Q:Exit→Act→World→Prop}{i:Nat}{o:Oper}{K:Act→World→Prop}{a:Act}{w:World}(ho:ops[i]? = some o) (hg:o.guard=none) (h:o.wp Tryz.prog a w K Q):wpOp Tryz.prog ops Q i K a w:=by
 unfold wpOp;simp only[ho,Region.wanted,hg];exact Or.inl h
theorem eval_tmp (a:Act) (s:Tmp):a.eval (.tmp s)=slot a s:=rfl
set_option maxHeartbeats 800000 in
theorem wp_region_tabs {ops:Array Oper}{Q:Exit→Act→World→Prop}{id:Nat}{a0:Act}{w0:World}(ks:List Kind) (hm:Tryz.prog.follows .mixedOrders=true) (hw:waitsBack ops=true) (hlen:ks.length=ops.size)
  (hD:(ks.filterMap Kind.dst?).Nodup) (hP:(ks.filterMap Kind.put?).Nodup) (hlt:∀d∈ks.filterMap Kind.dst?,d<a0.tmps.size)
  (hold:∀s∈ks.filterMap Kind.new?,∀b,slot a0 s=ptr b→b<w0.heap.size)
  (hok:∀i k,ks[i]? = some k→Kind.ok ops Q w0 a0 (ks.filterMap Kind.dst?) (ks.filterMap Kind.new?) ks i k)
  (done:∀(bp:Tmp→Nat) (w:World),Below w0.heap.size w0 w→(∀s∈ks.filterMap Kind.new?,w0.heap.size≤bp s∧bp s<w.heap.size)→(∀s∈ks.filterMap Kind.new?,∀t∈ks.filterMap Kind.new?,s≠t→bp s≠bp t)→(∀p F,Kind.put p F∈ks→IsTab w (bp p) F)→Q .normal (fin bp ks a0) w) :
  (Code.region id ops true).wp Tryz.prog Q a0 w0:=by
 have newdst:∀s,s∈ks.filterMap Kind.new?→s∈ks.filterMap Kind.dst?:=by
  intro s hs;obtain⟨k,hk,he⟩:=List.mem_filterMap.1 hs;refine List.mem_filterMap.2 ⟨k,hk,?_⟩;cases k using Kind.parts <;> simp_all [Kind.new?,Kind.dst?]
 have sameAt:∀(i j:Nat) (x y:Kind) (d:Tmp),ks[i]? = some x→ks[j]? = some y→x.dst? = some d→y.dst? = some d→i=j:=nodup_place Kind.dst? ks hD;have valnew:∀(i:Nat) (d:Tmp) (v:Value),ks[i]? = some (.val d v)→d ∉ ks.filterMap Kind.new?:=by
  intro i d v hi hc;obtain⟨k,hk,he⟩:=List.mem_filterMap.1 hc;obtain⟨j,hj⟩:=List.mem_iff_getElem?.1 hk;cases k using Kind.parts with
  | val=>simp[Kind.new?]at he
  | put=>simp[Kind.new?]at he
  | new d' =>
   simp[Kind.new?]at he;subst he;have:=sameAt i j _ _ d' hi hj rfl rfl;subst this;rw[hi]at hj;cases hj
 have putnew:∀(i:Nat) (p:Tmp) (F:Nat→Bool),ks[i]? = some (.put p F)→p∈ks.filterMap Kind.new?:=by
  intro i p F hi;obtain⟨o,_,_,_,s,_,_,e,_,_,he⟩:=hok i _ hi;exact List.mem_filterMap.2 ⟨_,List.mem_of_getElem? he,rfl⟩
 refine wp_region_any hm (wpAny_posts' (fun a w=>Thru w0 a0 (ks.filterMap Kind.dst?) (ks.filterMap Kind.new?) a w) (fun i a w=>∀k,ks[i]? = some k→k.post w0.heap.size a w) hw ?_ ?_ ops.size _ a0 _ (by simp) ?_ ?_ ?_ ?_)
 ·intro i o a w ho hG hpre;have hlt':i<ks.length:=by rw[hlen];exact(Array.getElem?_eq_some_iff.1 ho).1
  obtain⟨k,hk⟩:∃k,ks[i]? = some k:=⟨_,List.getElem?_eq_getElem hlt'⟩
  have hkok:=hok i k hk;obtain⟨o',ho',hg,hrest⟩:=hkok;obtain rfl:o=o':=Option.some.inj (ho.symm.trans ho');refine wpOp_plain ho hg ?_;cases k using Kind.parts with
  | val d v =>
   obtain⟨hdst,hwp⟩:=hrest;have hdD:d∈ks.filterMap Kind.dst?:=List.mem_filterMap.2 ⟨_,List.mem_of_getElem? hk,rfl⟩;have hdA:=valnew i d v hk;have hds:d<a.tmps.size:=by rw[hG.size];exact hlt d hdD
   refine hwp a w hG hpre _ fun w' kb=>⟨hG.val kb hdD hdA v,?_,?_⟩
   ·intro k' hk';obtain rfl:=Option.some.inj (hk.symm.trans hk');exact slot_put_eq v hds
   ·intro j oj hji _ _ hpj k' hk';have hj:=hpj k' hk';cases k' using Kind.parts with
    | val d' v' =>
     have:d≠d':=fun e=>hji (sameAt j i _ _ d' hk' hk rfl (by rw[e];rfl))
     exact(slot_put_ne v this).trans hj
    | new d' =>
     have:d≠d':=fun e=>hji (sameAt j i _ _ d' hk' hk rfl (by rw[e];rfl))
     obtain⟨b,F,h1,h2,h3⟩:=hj;exact⟨b,F,(slot_put_ne v this).trans h1,h2,h3.kept kb⟩
    | put p F =>
     have:d≠p:=fun e=>hdA (e ▸ putnew j p F hk')
     obtain⟨b,h1,h2,h3⟩:=hj;exact⟨b,(slot_put_ne v this).trans h1,h2,h3.kept kb⟩
  | new d =>
   obtain⟨hdst,hop⟩:=hrest;have hdD:d∈ks.filterMap Kind.dst?:=List.mem_filterMap.2 ⟨_,List.mem_of_getElem? hk,rfl⟩;have hds:d<a.tmps.size:=by rw[hG.size];exact hlt d hdD
   have hrun:(execOp a.eval o).run Tryz.prog w = .ok (.value (ptr w.heap.size)) (w.alloc (.cells #[.int .u64 0,.int .u64 0,.int .u64 0,.int .u64 0] 24)):=by
    simp only[execOp,hop,Sem.run_bind,run_alloc24,Result.andThen_ok];rfl
   unfold Oper.wp;rw[hrun,Oper.upon_value,hdst];refine⟨hG.new hdD hds _,?_,?_⟩
   ·intro k' hk';obtain rfl:=Option.some.inj (hk.symm.trans hk');exact⟨w.heap.size,_,slot_put_eq _ hds,hG.below.size,IsTab.zeroAt rfl⟩
   ·intro j oj hji hoj hno hpj k' hk';have hj:=hpj k' hk';cases k' using Kind.parts with
    | val d' v' =>
     have:d≠d':=fun e=>hji (sameAt j i _ _ d' hk' hk rfl (by rw[e];rfl))
     exact(slot_put_ne _ this).trans hj
    | new d' =>
     have:d≠d':=fun e=>hji (sameAt j i _ _ d' hk' hk rfl (by rw[e];rfl))
     obtain⟨b,F,h1,h2,h3⟩:=hj;exact⟨b,F,(slot_put_ne _ this).trans h1,h2,h3.alloc _⟩
    | put p F =>
     have:d≠p:=by
      intro e;subst e;obtain⟨oj',hoj',_,_,s,_,_,ed,hed,hbd,hen⟩:=hok j _ hk';obtain rfl:oj=oj':=Option.some.inj (hoj.symm.trans hoj');exact hno ed hed hbd (sameAt ed.on i _ _ d hen hk rfl rfl)
     obtain⟨b,h1,h2,h3⟩:=hj;exact⟨b,(slot_put_ne _ this).trans h1,h2,h3.alloc _⟩
  | put p F =>
   obtain⟨hdst,s,hop,⟨e1,he1,hb1,hk1⟩,e2,he2,hb2,hk2⟩:=hrest;have hv:slot a s=tab F:=hpre e1 he1 hb1 _ hk1;obtain⟨b,F',hp,hbase,hT⟩:=hpre e2 he2 hb2 _ hk2;have hrun:(execOp a.eval o).run Tryz.prog w = .ok .skip (laid w b F):=by
    simp only[execOp,hop,eval_tmp,hv,hp,ptr,Sem.run_bind,run_store24 hT F,Result.andThen_ok];rfl
   unfold Oper.wp;rw[hrun,Oper.upon_skip,hdst];refine⟨hG.put hbase F,?_,?_⟩
   ·intro k' hk';obtain rfl:=Option.some.inj (hk.symm.trans hk');exact⟨b,hp,hbase,laid_tab hT F⟩
   ·intro j oj hji _ _ hpj k' hk';have hj:=hpj k' hk';cases k' using Kind.parts with
    | val d' v'=>exact hj
    | new d' =>
     obtain⟨c,F2,h1,h2,h3⟩:=hj;by_cases e:d'=p
     ·subst e;obtain rfl:b=c:=ptr_inj (hp.symm.trans h1);exact⟨b,F,hp,hbase,laid_tab hT F⟩
     ·have hne:c≠b:=fun q=>hG.apart d' (List.mem_filterMap.2 ⟨_,List.mem_of_getElem? hk',rfl⟩) p (putnew i p F hk) e c h2 h1 (q ▸ hp)
      exact⟨c,F2,h1,h2,(laid_turned w b F).tab h3 hne⟩
    | put p' F2 =>
     obtain⟨c,h1,h2,h3⟩:=hj;have e:p'≠p:=fun q=>hji (nodup_place Kind.put? ks hP j i _ _ p hk' hk (by rw[← q];rfl) rfl)
     have hne:c≠b:=fun q=>hG.apart p' (putnew j p' F2 hk') p (putnew i p F hk) e c h2 h1 (q ▸ hp)
     exact⟨c,h1,h2,(laid_turned w b F).tab h3 hne⟩
 ·intro a w hG hall;have hpost:∀(i:Nat) (k:Kind),ks[i]? = some k→k.post w0.heap.size a w:=fun i k hk=>hall i (by rw[← hlen];exact(List.getElem?_eq_some_iff.1 hk).1) k hk
  let bp:Tmp→Nat:=fun s=>match slot a s with | .pointer (some ad)=>ad.block|_=>0
  have hbp:∀s b,slot a s=ptr b→bp s=b:=fun s b h=>by simp only[bp,h,ptr]
  have hfin:a=fin bp ks a0:=by
   refine act_fin bp ks a0 a hD hG.size hG.defers hG.other fun k hk d hd=>⟨hlt d (List.mem_filterMap.2 ⟨k,hk,hd⟩),?_⟩
   obtain⟨i,hi⟩:=List.mem_iff_getElem?.1 hk;have hp:=hpost i k hi;cases k using Kind.parts with
   | val d' v=>simp[Kind.dst?]at hd;subst hd;exact hp
   | new d' =>
    simp[Kind.dst?]at hd;subst hd;obtain⟨b,F,h1,_,_⟩:=hp;rw[kval,hbp _ _ h1];exact h1
   | put p F=>simp[Kind.dst?]at hd
  have hnew:∀s∈ks.filterMap Kind.new?,∃b F,slot a s=ptr b∧w0.heap.size≤b∧IsTab w b F:=by
   intro s hs;obtain⟨k,hk,he⟩:=List.mem_filterMap.1 hs;obtain⟨i,hi⟩:=List.mem_iff_getElem?.1 hk;have hp:=hpost i k hi;cases k using Kind.parts with
   | val=>simp[Kind.new?]at he
   | put=>simp[Kind.new?]at he
   | new d'=>simp[Kind.new?]at he;subst he;exact hp
  have:=done bp w hG.below (fun s hs=>by
   obtain⟨b,F,h1,h2,h3⟩:=hnew s hs;rw[hbp _ _ h1];exact⟨h2,h3.lt⟩) (fun s hs t ht hst=>by
   obtain⟨b,F,h1,h2,h3⟩:=hnew s hs;obtain⟨c,F2,g1,g2,g3⟩:=hnew t ht;rw[hbp _ _ h1,hbp _ _ g1];intro e;subst e;exact hG.apart s hs t ht hst b h2 h1 g1) (fun p F hk=>by
   obtain⟨i,hi⟩:=List.mem_iff_getElem?.1 hk;obtain⟨b,h1,h2,h3⟩:=hpost i _ hi;rw[hbp _ _ h1];exact h3)
  rw[← hfin]at this;exact this
 ·unfold toCome;exact Nat.le_trans (List.length_filter_le _ _) (by simp)
 ·refine⟨rfl,rfl,fun _ _=>rfl,⟨rfl,rfl,rfl,Nat.le_refl _,fun _ _=>rfl⟩,hold,fun s hs t ht _ b hb h1=>?_⟩;have:=hold s hs b h1;omega
 ·intro j hj;simp[Array.getElem?_replicate]at hj;split at hj <;> simp_all
 ·intro j o hj;simp[Array.getElem?_replicate]at hj;split at hj <;> simp_all
theorem wp_load {o:Oper}{a:Act}{w:World}{K:Act→World→Prop}{Q:Exit→Act→World→Prop}{d s:Tmp}{b:Nat}{F:Nat→Bool}(hop:o.op = .load 24 (.tmp s)) (hd:o.dst=some d) (hs:slot a s=ptr b) (hT:IsTab w b F) (h:∀w',Below w.heap.size w w'→K (a.put (some d) (tab F)) w'):o.wp Tryz.prog a w K Q:=by
 have hrun:(execOp a.eval o).run Tryz.prog w = .ok (.value (tab F)) w:=by
  simp only[execOp,hop,eval_tmp,hs,ptr,Sem.run_bind,run_load24 hT,Result.andThen_ok];rfl
 unfold Oper.wp;rw[hrun,Oper.upon_value,hd];exact h w (Below.refl _ _)
theorem wp_move {o:Oper}{a:Act}{w:World}{K:Act→World→Prop}{Q:Exit→Act→World→Prop}{d s:Tmp}{v:Value}(hop:o.op = .move (.tmp s)) (hd:o.dst=some d) (hs:slot a s=v) (h:∀w',Below w.heap.size w w'→K (a.put (some d) v) w'):o.wp Tryz.prog a w K Q:=by
 have hrun:(execOp a.eval o).run Tryz.prog w = .ok (.value v) w:=by
  simp only[execOp,hop,eval_tmp,hs];rfl
 unfold Oper.wp;rw[hrun,Oper.upon_value,hd];exact h w (Below.refl _ _)
theorem wp_call {o:Oper}{a:Act}{w:World}{K:Act→World→Prop}{Q:Exit→Act→World→Prop}{d:Tmp}{f:FuncId}{vs:Array Value}{v:Value}(hd:o.dst=some d) (hrun:(execOp a.eval o).run Tryz.prog w = .ok (.enter f vs) w) (hc:Calls Tryz.prog f vs w fun e w'=>e = .returned v∧Below w.heap.size w w') (h:∀w',Below w.heap.size w w'→K (a.put (some d) v) w'):o.wp Tryz.prog a w K Q:=by
 unfold Oper.wp;rw[hrun,Oper.upon_enter,hd];refine hc.mono ?_;rintro e w' ⟨rfl,b⟩;exact h w' b
theorem wp_region_tabs' {ops:Array Oper}{Q:Exit→Act→World→Prop}{id:Nat}{a0:Act}{w0:World}(ks:List Kind) (D A L:List Tmp) (n:Nat) (hm:Tryz.prog.follows .mixedOrders=true) (hw:waitsBack ops=true) (hlen:ks.length=ops.size)
  (eD:ks.filterMap Kind.dst? = D) (eA:ks.filterMap Kind.new? = A) (eL:ks.filterMap Kind.put? = L) (hD:D.Nodup) (hP:L.Nodup) (hn:a0.tmps.size=n) (hlt:(D.all fun d=>decide (d<n))=true)
  (hold:∀s∈A,∀b,slot a0 s=ptr b→b<w0.heap.size)
  (hok:∀i k,ks[i]? = some k→Kind.ok ops Q w0 a0 D A ks i k)
  (done:∀(bp:Tmp→Nat) (w:World),Below w0.heap.size w0 w→(∀s∈A,w0.heap.size≤bp s∧bp s<w.heap.size)→(∀s∈A,∀t∈A,s≠t→bp s≠bp t)→(∀p F,Kind.put p F∈ks→IsTab w (bp p) F)→Q .normal (fin bp ks a0) w) :
  (Code.region id ops true).wp Tryz.prog Q a0 w0:=by
 subst eD eA eL hn;exact wp_region_tabs ks hm hw hlen hD hP (fun d hd=>by simpa using List.all_eq_true.1 hlt d hd) hold hok done
theorem run_call {o:Oper}{a:Act}{w:World}{f:FuncId}{args:Array Operand}{tys:Array TypeId}(hop:o.op = .call { callee:=.value (.func f),args:=args,argTypes:=tys }) (vs:Array Value) (hf:∀vs,(callFunc f vs).run Tryz.prog w = .ok (.enter f vs) w) (hv:args.map a.eval=vs):(execOp a.eval o).run Tryz.prog w = .ok (.enter f vs) w:=by
 subst hv;simp only[execOp,hop,resolve,Sem.run_bind];show (Result.andThen ((Deferred.ofValue (.func (.func f) #[] #[]) (args.map a.eval)).run Tryz.prog w) _)=_;simp only[Deferred.ofValue,Sem.run_pure,Result.andThen_ok,invoke];simpa using hf (args.map a.eval)
end Go.Proofs.YtnnmdkaoiofabaaGreat.Rf
namespace Go.Proofs.YtnnmdkaoiofabaaGreat.Rf
open Go Go.RowKit
structure Steady (S:World→Prop) (a0:Act) (D:List Tmp) (a:Act) (w:World):Prop where
 size:a.tmps.size=a0.tmps.size
 defers:a.defers=a0.defers
 other:∀s,s ∉ D→slot a s=slot a0 s
 here:S w
def vfin : List (Tmp×Value)→Act→Act
 | [],a=>a
 | k :: ks,a=>vfin ks (a.put (some k.1) k.2)
def Left (ks:List (Tmp×Value)) (o:Oper) (a:Act):Prop:=∀e∈o.after,Region.binds .any e=true→∀k',ks[e.on]? = some k'→slot a k'.1=k'.2
section
variable {P:Program}{ops:Array Oper}{Q:Exit→Act→World→Prop}{S:World→Prop}{a0:Act}{D:List Tmp}{ks:List (Tmp×Value)}
def Does (P:Program) (Q:Exit→Act→World→Prop) (S:World→Prop) (a0:Act) (D:List Tmp) (ks:List (Tmp×Value)) (o:Oper) (k:Tmp×Value):Prop:=
 ∀a w,Steady S a0 D a w→Left ks o a→∀K:Act→World→Prop,(∀w',S w'→K (a.put (some k.1) k.2) w')→o.wp P a w K Q
def VOk (P:Program) (ops:Array Oper) (Q:Exit→Act→World→Prop) (S:World→Prop) (a0:Act) (D:List Tmp) (ks:List (Tmp×Value)) (i:Nat) (k:Tmp×Value):Prop:=
 ∃o,ops[i]? = some o∧o.dst=some k.1∧((o.guard=none∧Does P Q S a0 D ks o k) ∨
  ∃j b dj g,o.guard=some (j,b)∧(∃e∈o.after,Region.binds .any e=true∧e.on=j)∧ks[j]? = some (dj,.bool g)∧(g≠b→k.2=undef)∧(g=b→Does P Q S a0 D ks o k))
theorem vok_plain {i:Nat}{k:Tmp×Value}(o:Oper) (ho:ops[i]? = some o) (hd:o.dst=some k.1) (hg:o.guard=none) (h:Does P Q S a0 D ks o k):VOk P ops Q S a0 D ks i k:=⟨o,ho,hd,Or.inl ⟨hg,h⟩⟩
theorem vok_sure {i:Nat}{k:Tmp×Value}(o:Oper) (ho:ops[i]? = some o) (hd:o.dst=some k.1) (j:Nat) (b:Bool) (dj:Tmp) (hg:o.guard=some (j,b)) (he:∃e∈o.after,Region.binds .any e=true∧e.on=j) (hj:ks[j]? = some (dj,.bool b)) (h:Does P Q S a0 D ks o k):VOk P ops Q S a0 D ks i k:=
 ⟨o,ho,hd,Or.inr ⟨j,b,dj,b,hg,he,hj,fun h=>absurd rfl h,fun _=>h⟩⟩
theorem vok_maybe {i:Nat}{k:Tmp×Value}(o:Oper) (ho:ops[i]? = some o) (hd:o.dst=some k.1) (j:Nat) (b:Bool) (dj:Tmp) (g:Bool) (hg:o.guard=some (j,b)) (he:∃e∈o.after,Region.binds .any e=true∧e.on=j) (hj:ks[j]? = some (dj,.bool g)) (hu:g≠b→k.2=undef) (h:g=b→Does P Q S a0 D ks o k):VOk P ops Q S a0 D ks i k:=
 ⟨o,ho,hd,Or.inr ⟨j,b,dj,g,hg,he,hj,hu,h⟩⟩
theorem Steady.put {a:Act}{w w':World}(g:Steady S a0 D a w) (hw:S w'){d:Tmp}(hd:d∈D) (v:Value):Steady S a0 D (a.put (some d) v) w':=
 ⟨by simpa[Act.put]using g.size,g.defers,fun s hs=>by rw[slot_put_ne v (show d≠s from fun e=>hs (e ▸ hd))];exact g.other s hs,hw⟩
theorem vact_fin : ∀(ks:List (Tmp×Value)) (a0 a:Act),(ks.map (·.1)).Nodup→a.tmps.size=a0.tmps.size→a.defers=a0.defers→(∀s,s ∉ ks.map (·.1)→slot a s=slot a0 s)→(∀k∈ks,k.1<a0.tmps.size∧slot a k.1=k.2)→a=vfin ks a0
 | [],a0,a,_,h1,h2,h3,_=>act_ext h1 h2 fun s=>h3 s (by simp)
 | k :: ks,a0,a,hn,h1,h2,h3,h4=>by
  rw[List.map_cons,List.nodup_cons]at hn;have hd:=h4 k List.mem_cons_self;refine vact_fin ks _ a hn.2 (by simpa[Act.put]using h1) h2 (fun s hs=>?_) (fun k' hk'=>?_)
  ·by_cases e:k.1=s
   ·subst e;rw[slot_put_eq _ hd.1];exact hd.2
   ·rw[slot_put_ne _ e];exact h3 s (by simp only[List.map_cons,List.mem_cons,not_or];exact⟨fun q=>e q.symm,hs⟩)
  ·have:=h4 k' (List.mem_cons_of_mem _ hk');exact⟨by simpa[Act.put]using this.1,this.2⟩
theorem yielded_of {a:Act}{j:Nat}{oj:Oper}{dj:Tmp}{g:Bool}(ho:ops[j]? = some oj) (hd:oj.dst=some dj) (hlt:dj<a.tmps.size) (hs:slot a dj = .bool g):yielded ops a.tmps j=some g:=by
 have:a.tmps[dj]? = some (.bool g):=by
  rw[Array.getElem?_eq_getElem hlt];simp only[slot,Array.getD,hlt,dif_pos]at hs;exact congrArg some hs
 simp only[yielded,ho,Option.bind_some,hd,this]
theorem wp_region_vals {id:Nat}{w0:World}(S:World→Prop) (ks:List (Tmp×Value)) (D:List Tmp) (n:Nat) (hm:P.follows .mixedOrders=true) (hw:waitsBack ops=true) (hlen:ks.length=ops.size)
  (eD:ks.map (·.1)=D) (hD:D.Nodup) (hn:a0.tmps.size=n) (hlt:(D.all fun d=>decide (d<n))=true) (hS:S w0.drew)
  (hok:∀i k,ks[i]? = some k→VOk P ops Q S a0 D ks i k)
  (done:∀w,S w→Q .normal (vfin ks a0) w) :
  (Code.region id ops true).wp P Q a0 w0:=by
 subst eD hn;have hlt':∀(i:Nat) (k:Tmp×Value),ks[i]? = some k→k.1<a0.tmps.size:=fun i k hk=>by simpa using List.all_eq_true.1 hlt k.1 (List.mem_map.2 ⟨k,List.mem_of_getElem? hk,rfl⟩)
 have hmem:∀(i:Nat) (k:Tmp×Value),ks[i]? = some k→k.1∈ks.map (·.1):=fun i k hk=>List.mem_map.2 ⟨k,List.mem_of_getElem? hk,rfl⟩
 have sameAt:∀(i j:Nat) (x y:Tmp×Value),ks[i]? = some x→ks[j]? = some y→x.1=y.1→i=j:=fun i j x y hi hj e=>by
  refine nodup_place (fun k:Tmp×Value=>some k.1) ks ?_ i j x y x.1 hi hj rfl (congrArg some e.symm)
  have:ks.filterMap (fun k:Tmp×Value=>some k.1)=ks.map (·.1):=by rw[← List.filterMap_eq_map];rfl
  rw[this];exact hD
 refine wp_region_any hm (wpAny_posts' (fun a w=>Steady S a0 (ks.map (·.1)) a w) (fun i a _=>∀k:Tmp×Value,ks[i]? = some k→slot a k.1=k.2) hw ?_ ?_ ops.size _ a0 _ (by simp) ?_ ⟨rfl,rfl,fun _ _=>rfl,hS⟩ ?_ ?_)
 ·intro i o a w ho hG hpre;have hi:i<ks.length:=by rw[hlen];exact(Array.getElem?_eq_some_iff.1 ho).1
  obtain⟨k,hk⟩:∃k,ks[i]? = some k:=⟨_,List.getElem?_eq_getElem hi⟩
  obtain⟨o',ho',hdst,hrest⟩:=hok i k hk;obtain rfl:o=o':=Option.some.inj (ho.symm.trans ho');have hds:k.1<a.tmps.size:=by rw[hG.size];exact hlt' i k hk
  have fine:∀w',S w'→Steady S a0 (ks.map (·.1)) (a.put (some k.1) k.2) w'∧(∀k':Tmp×Value,ks[i]? = some k'→slot (a.put (some k.1) k.2) k'.1=k'.2)∧∀j o',j≠i→ops[j]? = some o'→(∀e∈o'.after,Region.binds .any e=true→e.on≠i)→(∀k':Tmp×Value,ks[j]? = some k'→slot a k'.1=k'.2)→(∀k':Tmp×Value,ks[j]? = some k'→slot (a.put (some k.1) k.2) k'.1=k'.2):=by
   intro w' hw';refine⟨hG.put hw' (hmem i k hk) k.2,fun k' hk'=>?_,fun j oj hji _ _ hpj k' hk'=>?_⟩
   ·obtain rfl:=Option.some.inj (hk.symm.trans hk');exact slot_put_eq _ hds
   ·rw[slot_put_ne _ (fun e=>hji (sameAt j i k' k hk' hk e.symm))];exact hpj k' hk'
  have hleft:Left ks o a:=fun e he hb k' hk'=>hpre e he hb k' hk'
  unfold wpOp;simp only[ho];rcases hrest with ⟨hg,hdo⟩|⟨j,b,dj,g,hg,⟨e,he,hbe,rfl⟩,hkj,hu,hdo⟩
  ·simp only[Region.wanted,hg,if_true];exact Or.inl (hdo a w hG hleft _ fine)
  ·obtain⟨oj,hoj,hdj,_⟩:=hok e.on _ hkj;have hy:yielded ops a.tmps e.on=some g:=yielded_of hoj hdj (by rw[hG.size];exact hlt' _ _ hkj) (hleft e he hbe _ hkj);by_cases hgb:g=b
   ·subst hgb;simp only[Region.wanted,hg,hy,beq_self_eq_true,if_true];exact Or.inl (hdo rfl a w hG hleft _ fine)
   ·have:(some g == some b)=false:=by simpa using hgb
    simp only[Region.wanted,hg,hy,this];have:=fine w hG.here;rw[hu hgb]at this;rw[hdst];exact this
 ·intro a w hG hall;have hfin:a=vfin ks a0:=by
   refine vact_fin ks a0 a hD hG.size hG.defers hG.other fun k hk=>?_
   obtain⟨i,hi⟩:=List.mem_iff_getElem?.1 hk;exact⟨hlt' i k hi,hall i (by rw[← hlen];exact(List.getElem?_eq_some_iff.1 hi).1) k hi⟩
  rw[hfin];exact done w hG.here
 ·unfold toCome;exact Nat.le_trans (List.length_filter_le _ _) (by simp)
 ·intro j hj;simp[Array.getElem?_replicate]at hj;split at hj <;> simp_all
 ·intro j o hj;simp[Array.getElem?_replicate]at hj;split at hj <;> simp_all
variable {o:Oper}{a:Act}{w:World}{K:Act→World→Prop}
theorem does_val {k:Tmp×Value}(hd:o.dst=some k.1) (h:∀a w,Steady S a0 D a w→Left ks o a→(execOp a.eval o).run P w = .ok (.value k.2) w):Does P Q S a0 D ks o k:=by
 intro a w hG hL K hK;unfold Oper.wp;rw[h a w hG hL,Oper.upon_value,hd];exact hK w hG.here
theorem does_call {k:Tmp×Value}{f:FuncId}(vs:Array Value) (hd:o.dst=some k.1) (h:∀a w,Steady S a0 D a w→Left ks o a→(execOp a.eval o).run P w = .ok (.enter f vs) w) (hc:∀w,S w→Calls P f vs w fun e w'=>e = .returned k.2∧S w'):Does P Q S a0 D ks o k:=by
 intro a w hG hL K hK;unfold Oper.wp;rw[h a w hG hL,Oper.upon_enter,hd];refine(hc w hG.here).mono ?_;rintro e w' ⟨rfl,hs⟩;exact hK w' hs
theorem x_move {x:Operand}{v:Value}(hop:o.op = .move x) (hv:a.eval x=v):(execOp a.eval o).run P w = .ok (.value v) w:=by
 simp only[execOp,hop,hv];rfl
theorem x_assign {x:Operand}{v:Value}(hop:o.op = .assign x) (hv:a.eval x=v):(execOp a.eval o).run P w = .ok (.value v) w:=by
 simp only[execOp,hop,hv];rfl
theorem x_pick {c x y:Operand}{b:Bool}{v:Value}(hop:o.op = .pick c x y) (hc:a.eval c = .bool b) (hv:(if b then a.eval x else a.eval y)=v):(execOp a.eval o).run P w = .ok (.value v) w:=by
 subst hv;simp only[execOp,hop,hc];cases b <;> rfl
theorem x_bin {op:BinOp}{t t':TypeId}{x y:Operand}{vx vy v:Value}(hop:o.op = .binOp op t x y t') (hx:a.eval x=vx) (hy:a.eval y=vy) (hg:(eqGuard op t x y vx vy).run P w = .ok () w) (hb:(binOp op t vx vy).run P w = .ok v w):(execOp a.eval o).run P w = .ok (.value v) w:=by
 simp only[execOp,hop,hx,hy,Sem.run_bind,hg,hb,Result.andThen_ok];rfl
theorem x_un {op:UnOp}{t:TypeId}{x:Operand}{vx v:Value}(hop:o.op = .unOp op t x) (hx:a.eval x=vx) (hb:(Op.unary op vx).run P w = .ok v w):(execOp a.eval o).run P w = .ok (.value v) w:=by
 simp only[execOp,hop,hx,Sem.run_bind,hb,Result.andThen_ok];rfl
theorem x_load {t:TypeId}{x:Operand}{vx v:Value}(hop:o.op = .load t x) (hx:a.eval x=vx) (hb:(Instr.loadAt t vx).run P w = .ok v w):(execOp a.eval o).run P w = .ok (.value v) w:=by
 simp only[execOp,hop,hx,Sem.run_bind,hb,Result.andThen_ok];rfl
theorem x_call {f:FuncId}{args:Array Operand}{tys:Array TypeId}{vs:Array Value}(hop:o.op = .call { callee:=.value (.func f),args:=args,argTypes:=tys }) (hv:args.map a.eval=vs) (hf:∀w,(callFunc f vs).run P w = .ok (.enter f vs) w):(execOp a.eval o).run P w = .ok (.enter f vs) w:=by
 subst hv;simp only[execOp,hop,resolve,Sem.run_bind];show (Result.andThen ((Deferred.ofValue (.func (.func f) #[] #[]) (args.map a.eval)).run P w) _)=_;simp only[Deferred.ofValue,Sem.run_pure,Result.andThen_ok,invoke];simpa using hf w
end
end Go.Proofs.YtnnmdkaoiofabaaGreat.Rf
namespace Go.Proofs.YtnnmdkaoiofabaaGreat.Rf
open Go Go.RowKit
def waitsBackQ (ops:Array Oper):Bool:=(List.range ops.size).all fun i=>((ops[i]?).map (·.after.all fun e=>!Region.binds .any e || decide (e.on<i))).getD true
section
variable {P:Program}{ops:Array Oper}{Q:Exit→Act→World→Prop}{S:World→Prop}{a0:Act}{D:List Tmp}{ks:List (Tmp×Value)}
theorem waits_of (hw:waitsBackQ ops=true){i:Nat}{o:Oper}(ho:ops[i]? = some o):∀e∈o.after,Region.binds .any e=true→e.on<i:=by
 intro e he hb;have hi:i<ops.size:=(Array.getElem?_eq_some_iff.1 ho).1;have h1:=List.all_eq_true.1 hw i (List.mem_range.2 hi);rw[ho]at h1;simp only[Option.map_some,Option.getD_some,Array.all_eq_true_iff_forall_mem]at h1;have h2:=h1 e he;rw[hb]at h2;simpa using h2
theorem vals_from (hw:waitsBackQ ops=true) (hlen:ks.length=ops.size) (hD:(ks.map (·.1)).Nodup) (hlt':∀(i:Nat) (k:Tmp×Value),ks[i]? = some k→k.1<a0.tmps.size)
  (hok:∀i k,ks[i]? = some k→VOk P ops Q S a0 (ks.map (·.1)) ks i k)
  (done:∀w,S w→Q .normal (vfin ks a0) w) :
  ∀(g m:Nat) (a:Act) (w:World),m+g=ops.size→Steady S a0 (ks.map (·.1)) a w→(∀j,j<m→∀k:Tmp×Value,ks[j]? = some k→slot a k.1=k.2)→wpOps P ops Q (List.range' m g) a w:=by
 have hmem:∀(i:Nat) (k:Tmp×Value),ks[i]? = some k→k.1∈ks.map (·.1):=fun i k hk=>List.mem_map.2 ⟨k,List.mem_of_getElem? hk,rfl⟩
 have sameAt:∀(i j:Nat) (x y:Tmp×Value),ks[i]? = some x→ks[j]? = some y→x.1=y.1→i=j:=fun i j x y hi hj e=>by
  refine nodup_place (fun k:Tmp×Value=>some k.1) ks ?_ i j x y x.1 hi hj rfl (congrArg some e.symm)
  have:ks.filterMap (fun k:Tmp×Value=>some k.1)=ks.map (·.1):=by rw[← List.filterMap_eq_map];rfl
  rw[this];exact hD
 intro g;induction g with
 | zero =>
  intro m a w hm hG hP;have hfin:a=vfin ks a0:=by
   refine vact_fin ks a0 a hD hG.size hG.defers hG.other fun k hk=>?_
   obtain⟨i,hi⟩:=List.mem_iff_getElem?.1 hk;have hi':i<m:=by
    have:=(List.getElem?_eq_some_iff.1 hi).1;omega
   exact⟨hlt' i k hi,hP i hi' k hi⟩
  show Q .normal a w;rw[hfin];exact done w hG.here
 | succ g ih =>
  intro i a w hm hG hP;have hi:i<ks.length:=by omega
  obtain⟨k,hk⟩:∃k,ks[i]? = some k:=⟨_,List.getElem?_eq_getElem hi⟩
  obtain⟨o,ho,hdst,hrest⟩:=hok i k hk;have hds:k.1<a.tmps.size:=by rw[hG.size];exact hlt' i k hk
  have hleft:Left ks o a:=fun e he hb k' hk'=>hP e.on (waits_of hw ho e he hb) k' hk'
  have fine:∀w',S w'→wpOps P ops Q (List.range' (i+1) g) (a.put (some k.1) k.2) w':=by
   intro w' hw';refine ih (i+1) _ w' (by omega) (hG.put hw' (hmem i k hk) k.2) fun j hj k' hk'=>?_
   by_cases e:j=i
   ·subst e;obtain rfl:=Option.some.inj (hk.symm.trans hk');exact slot_put_eq _ hds
   ·rw[slot_put_ne _ (fun q=>e (sameAt j i k' k hk' hk q.symm))];exact hP j (by omega) k' hk'
  rw[List.range'_succ,wpOps_cons];unfold wpOp;simp only[ho];rcases hrest with ⟨hg,hdo⟩|⟨j,b,dj,gb,hg,⟨e,he,hbe,rfl⟩,hkj,hu,hdo⟩
  ·simp only[Region.wanted,hg,if_true];exact Or.inl (hdo a w hG hleft _ fine)
  ·obtain⟨oj,hoj,hdj,_⟩:=hok e.on _ hkj;have hy:yielded ops a.tmps e.on=some gb:=yielded_of hoj hdj (by rw[hG.size];exact hlt' _ _ hkj) (hleft e he hbe _ hkj);by_cases hgb:gb=b
   ·subst hgb;simp only[Region.wanted,hg,hy,beq_self_eq_true,if_true];exact Or.inl (hdo rfl a w hG hleft _ fine)
   ·have:(some gb == some b)=false:=by simpa using hgb
    simp only[Region.wanted,hg,hy,this];have:=fine w hG.here;rw[hu hgb]at this;rw[hdst];exact this
theorem wp_region_valsq {id:Nat}{w0:World}(S:World→Prop) (ks:List (Tmp×Value)) (D:List Tmp) (n:Nat) (hw:waitsBackQ ops=true) (hlen:ks.length=ops.size)
  (eD:ks.map (·.1)=D) (hD:D.Nodup) (hn:a0.tmps.size=n) (hlt:(D.all fun d=>decide (d<n))=true) (hS:S w0)
  (hok:∀i k,ks[i]? = some k→VOk P ops Q S a0 D ks i k)
  (done:∀w,S w→Q .normal (vfin ks a0) w) :
  (Code.region id ops false).wp P Q a0 w0:=by
 subst eD hn;refine wp_region ?_;rw[List.range_eq_range'];exact vals_from hw hlen hD (fun i k hk=>by simpa using List.all_eq_true.1 hlt k.1 (List.mem_map.2 ⟨k,List.mem_of_getElem? hk,rfl⟩)) hok done ops.size 0 a0 w0 (by omega) ⟨rfl,rfl,fun _ _=>rfl,hS⟩ (fun j hj=>absurd hj (Nat.not_lt_zero j))
def gval (e b:Bool) (v:Value):Value:=if e=b then v else undef
theorem gval_pos {e b:Bool}{v:Value}(h:e=b):gval e b v=v:=if_pos h
theorem gval_neg {e b:Bool}{v:Value}(h:e≠b):gval e b v=undef:=if_neg h
theorem does_if {e b:Bool}(hc:e=b){o:Oper}{d:Tmp}{v:Value}(h:Does P Q S a0 D ks o (d,v)):Does P Q S a0 D ks o (d,gval e b v):=by
 rw[gval_pos hc];exact h
theorem pick_and {e x:Bool}{vx vy:Value}(hx:vx=gval e true (.bool x)) (hy:vy = .bool false):(if e then vx else vy) = .bool (e && x):=by
 subst hx hy;cases e <;> rfl
end
end Go.Proofs.YtnnmdkaoiofabaaGreat.Rf
namespace Go.Proofs.YtnnmdkaoiofabaaGreat.Rf
open Go Go.RowKit
theorem run_notB (a:Bool) (w:World):(Op.unary .not (.bool a)).run Tryz.prog w = .ok (.bool (!a)) w:=by
 go_simp
end Go.Proofs.YtnnmdkaoiofabaaGreat.Rf
namespace Go.Proofs.YtnnmdkaoiofabaaGreat.Rf
open Go Go.RowKit
theorem run_neT (F G:Nat→Bool) (w:World):(binOp .neq 24 (tab F) (tab G)).run Tryz.prog w = .ok (.bool (!same F G)) w:=by
 have h:(Op.equalIn 10000 24 (tab F) (tab G)).run Tryz.prog w = .ok (same F G) w:=equal_tab F G w;unfold tab at h ⊢;go_simp
theorem guard_ne (x y:Operand) (F G:Nat→Bool) (w:World):(eqGuard .neq 24 x y (tab F) (tab G)).run Tryz.prog w = .ok () w:=run_eqGuard_agg (P:=Tryz.prog) w .neq 24 x y _ _ (by kernel_rfl)
theorem run_idx38 (bv ov k n cap:Nat) (h:k<n) (w:World):(Instr.indexAt 42 (.slice (some ⟨bv,ov,none⟩) n cap) (.int .i64 (k:Int))).run Tryz.prog w = .ok (.pointer (some ⟨bv,ov+k,none⟩)) w:=by
 have h1:(k:Int)<(n:Int):=by omega
 go_simp
theorem run_load3 {w:World}{ad:Addr}{v:Int}(h:w.cell? ad=some (.int .i64 v)):(Instr.loadAt 3 (.pointer (some ad))).run Tryz.prog w = .ok (.int .i64 v) w:=by
 go_simp
theorem call11 (vs:Array Value) (w:World):(callFunc 76 vs).run Tryz.prog w = .ok (.enter 76 vs) w:=by
 have h:=Tryz.func76;go_simp
theorem call27 (vs:Array Value) (w:World):(callFunc 40 vs).run Tryz.prog w = .ok (.enter 40 vs) w:=by
 have h:=Tryz.func40;go_simp
theorem call56 (vs:Array Value) (w:World):(callFunc 92 vs).run Tryz.prog w = .ok (.enter 92 vs) w:=by
 have h:=Tryz.func92;go_simp
theorem wp_val {o:Oper}{a:Act}{w:World}{K:Act→World→Prop}{Q:Exit→Act→World→Prop}{d:Tmp}{v:Value}(hd:o.dst=some d) (hrun:(execOp a.eval o).run Tryz.prog w = .ok (.value v) w) (h:K (a.put (some d) v) w):o.wp Tryz.prog a w K Q:=by
 unfold Oper.wp;rw[hrun,Oper.upon_value,hd];exact h
theorem x_index {o:Oper}{a:Act}{w:World}{t:TypeId}{x ix:Operand}{vx vi v:Value}(hop:o.op = .indexAddr t x ix) (hx:a.eval x=vx) (hi:a.eval ix=vi) (hb:(Instr.indexAt t vx vi).run Tryz.prog w = .ok v w):(execOp a.eval o).run Tryz.prog w = .ok (.value v) w:=by
 simp only[execOp,hop,hx,hi,Sem.run_bind,hb,Result.andThen_ok];rfl
theorem callS {f:FuncId}{vs:Array Value}{v:Value}{w6:World}(h:∀u,Below w6.heap.size w6 u→Calls Tryz.prog f vs u fun e w'=>e = .returned v∧Below u.heap.size u w'):∀u,Below w6.heap.size w6 u→Calls Tryz.prog f vs u fun e w'=>e = .returned v∧Below w6.heap.size w6 w':=
 fun u s=>(h u s).mono fun _ _ ⟨he,hb⟩=>⟨he,below_far s hb⟩
end Go.Proofs.YtnnmdkaoiofabaaGreat.Rf
namespace Go.Proofs.YtnnmdkaoiofabaaGreat.Rf
open Go Go.RowKit
def Old (w:World) (v:Value):Prop:=∀b,v=ptr b→b<w.heap.size
theorem old_undef (w:World):Old w undef:=fun b h=>by simp[undef,ptr]at h
theorem old_ptr {w:World}{b:Nat}(h:b<w.heap.size):Old w (.pointer (some ⟨b,0,none⟩)):=fun c e=>by
 have:b=c:=ptr_inj e;omega
theorem old_lt {w:World}{v:Value}{fb:Nat}{F:Nat→Bool}(h:∀b,v=ptr b→b<fb) (T:IsTab w fb F):Old w v:=fun b e=>Nat.lt_trans (h b e) T.lt
set_option maxRecDepth 100000 in
set_option maxHeartbeats 3200000 in
theorem parts_any (adl:Option Addr) (L capl:Nat) (T:Nat→Nat→Bool) (adv:Option Addr) (n capv:Nat) (V:Nat→Int) (w:World) (hL:L≤1000) (hn:n≤1000000) (hl:TabsAt w adl L T) (hv:IntsAt w adv n V) :
  Calls Tryz.prog 60 #[.slice adl L capl,.slice adv n capv] w fun e w'=>(∃ad cap,e = .returned (.slice ad (prt V n (dedup T L) (min n 8+1)).1.length cap)∧Own w' w.heap.size ad (prt V n (dedup T L) (min n 8+1)).1 cap)∧Below w.heap.size w w':=by
 go_enter Tryz.func60,Tryz.ntmps60
 go_wp2_with fail
 go_loopg [6,7] L (fun g sn si wr=>∃(k:Nat) (ad:Option Addr) (cap:Nat),k+g=L∧si = .int .i64 (k:Int)∧sn = .slice ad (dedup T k).length cap∧Own wr w.heap.size ad (dedup T k) cap∧Below w.heap.size w wr)
 case atStart=>exact⟨0,none,0,by omega,rfl,rfl,Own.nil _ _,Below.refl _ _⟩
 case round =>
  obtain⟨k,ad,cap,hk,rfl,rfl,hO,hB⟩:=hrel;have hA:=hl.kept hB;have hK:Aside (k+gk=L):=hk;clear hk;have hlen:=dedup_le T k;obtain⟨ts,hts⟩:∃ts,dedup T k=ts:=⟨_,rfl⟩
  have hS:Aside (dedup T (k+1)=addN ts (T k)):=by simp only[Aside];rw[dedup,hts]
  have hD:Aside (dedup T k=ts):=hts;rw[hts]at hO hlen;rw[hts];clear hts;by_cases hk9:k<L
  ·have hk9':(k:Int)<(L:Int):=by omega
   obtain⟨b,off,rfl,hb⟩:=hA.some (by omega);obtain⟨d0,d1,d2,d3⟩:=hA.get hk9;have hOt:=hO.tabs;cases hh:hasUpto (fun i=>ts.getD i fun _=>false) (T k) ts.length with
   | true =>
    have hh':Aside (hasUpto (fun i=>ts.getD i fun _=>false) (T k) ts.length=true):=hh;clear hh
    go_wp2_with (first
     | (go_at_call 92;refine(in_any ad ts.length cap _ (T k) (by omega) _ hOt).mono ?_;rw[hh'.out];rintro e w6 ⟨rfl,b6⟩))
    go_roundg (gk-1)
    case measure=>have:=hK.out;omega
    case rel =>
     have:=hK.out;exact⟨k+1,ad,cap,by omega,rfl,by rw[hS.out,addN_skip hh'.out],by rw[hS.out,addN_skip hh'.out];exact hO.below b6,below_far hB b6⟩
   | false =>
    have hh':Aside (hasUpto (fun i=>ts.getD i fun _=>false) (T k) ts.length=false):=hh;clear hh
    go_wp2_with (first
     | (go_at_call 92;refine(in_any ad ts.length cap _ (T k) (by omega) _ hOt).mono ?_;rw[hh'.out];rintro e w6 ⟨rfl,b6⟩;have A6:=hA.kept b6;have O6:=hO.below b6;have B6:=below_far hB b6;have B6s:=B6.size;obtain⟨e0,e1,e2,e3⟩:=A6.get hk9)
     | (at_builtin;refine append_tab (O6.new _) (T k) w6.heap.size (IsTab.new w6 (T k)) (by omega) (by simp;omega) rfl _ _ rfl rfl rfl ?_;intro g cap' w7 o7 g7 at7 lt7))
    go_roundg (gk-1)
    case measure=>have:=hK.out;omega
    case rel =>
     have:=hK.out;have B7:Below w.heap.size w w7:=(B6.alloc B6s _).grown g7 (by simp;omega) (fun k hk=>(O6.blockGe k hk).1);exact⟨k+1,some ⟨g,0,none⟩,cap',by omega,rfl,by rw[hS.out,addN_new hh'.out];simp,by rw[hS.out,addN_new hh'.out];exact o7,B7⟩
  ·obtain rfl:k=L:=by have:=hK.out;omega
   have hR:Aside (prt V n (dedup T k) (min n 8+1)=prt V n ts (min n 8+1)):=by simp only[Aside];rw[hD.out]
   have hts:ts.length≤1000:=by omega
   clear hS hD hlen
   go_wp2_with fail
   go_loopg [5,6,8,12,13] (min n 8+1) (fun g sa sn sk sp sq ws=>∃(k:Nat) (ada:Option Addr) (capa:Nat) (adn:Option Addr) (capn:Nat),k+g=min n 8+1∧sk = .int .i64 (k:Int)∧sa = .slice ada (prt V n ts k).1.length capa∧sn = .slice adn (prt V n ts k).2.length capn∧Own ws w.heap.size ada (prt V n ts k).1 capa∧Own ws w.heap.size adn (prt V n ts k).2 capn∧Apart ada adn∧Below w.heap.size w ws∧Old ws sp∧Old ws sq)
   case atStart=>exact⟨0,none,0,ad,cap,by omega,rfl,rfl,rfl,Own.nil _ _,hO,(Apart.nil ad).symm,hB,old_undef _,old_undef _⟩
   case round =>
    clear hB hO hA;obtain⟨k',ada,capa,adn,capn,hk,rfl,rfl,rfl,hOa,hOn,hap,hB,hp12,hp13⟩:=hrel;have hK2:Aside (k'+gk=min n 8+1):=hk;clear hk;by_cases hk9:k'≤min n 8
    ·have hsm:=prt_small V n ts hts k' (by omega);obtain⟨a0,ha0⟩:∃a0,(prt V n ts k').1=a0:=⟨_,rfl⟩
     obtain⟨us,hus⟩:∃us,(prt V n ts k').2=us:=⟨_,rfl⟩
     have hP:Aside (prt V n ts (k'+1)=(lvA a0 us us.length,lvX (decide (k'=n) || decide (k'=8)) (V k') us us.length)):=by simp only[Aside];rw[prt,ha0,hus]
     rw[ha0]at hOa hsm;rw[hus]at hOn hsm;rw[ha0,hus];clear ha0 hus;obtain⟨last,hlast⟩:∃last,(decide (k'=n) || decide (k'=8))=last:=⟨_,rfl⟩
     simp only[Aside]at hP;rw[hlast]at hP;have hP':Aside (prt V n ts (k'+1)=(lvA a0 us us.length,lvX last (V k') us us.length)):=hP;have hLast:Aside ((decide (k'=n) || decide (k'=8))=last):=hlast;clear hP hlast;have q1:(k':Int)≤(n:Int):=by omega
     have q2:(k':Int)≤8:=by omega
     have q3:k'≤n:=by omega
     have q4:k'≤8:=by omega
     go_wp2_with fail
     go_loopg [5,9,10,12,13] us.length (fun g sa sx si sp sq ws=>∃(i:Nat) (ada:Option Addr) (capa:Nat) (adx:Option Addr) (capx:Nat),i+g=us.length∧si = .int .i64 (i:Int)∧sa = .slice ada (lvA a0 us i).length capa∧sx = .slice adx (lvX last (V k') us i).length capx∧Own ws w.heap.size ada (lvA a0 us i) capa∧Own ws w.heap.size adx (lvX last (V k') us i) capx∧Own ws w.heap.size adn us capn∧Apart ada adn∧Apart adx adn∧Apart ada adx∧Below w.heap.size w ws∧Old ws sp∧Old ws sq)
     case atStart=>exact⟨0,ada,capa,none,0,by omega,rfl,rfl,rfl,hOa,Own.nil _ _,hOn,hap,(Apart.nil adn).symm,Apart.nil ada,hB,hp12,hp13⟩
     case round =>
      clear hOa hOn hap hB hp12 hp13;obtain⟨i,ada,capa,adx,capx,hi,rfl,rfl,rfl,hOa,hOx,hOn,hap,hxp,hax,hB,hp12,hp13⟩:=hrel;have hI:Aside (i+gk=us.length):=hi;clear hi;by_cases hi9:i<us.length
      ·have hi9':(i:Int)<(us.length:Int):=by omega
       have hA':=hOn.tabs;obtain⟨b,off,hadn,hb⟩:=hA'.some (by omega);subst hadn;obtain⟨d0,d1,d2,d3⟩:=hA'.get hi9;have hla:=lvA_le a0 us i;have hlx:=lvX_le last (V k') us i;obtain⟨F,hF⟩:∃F,us.getD i (fun _=>false)=F:=⟨_,rfl⟩
       rw[hF]at d0 d1 d2 d3;have sA:Aside (lvA a0 us (i+1)=allStep (lvA a0 us i) F):=by simp only[Aside];rw[lvA,hF]
       have sX:Aside (lvX last (V k') us (i+1)=nextStep last (V k') (lvX last (V k') us i) F):=by simp only[Aside];rw[lvX,hF]
       clear hF hA';generalize lvA a0 us i=al at hOa hla sA ⊢;generalize lvX last (V k') us i=xs at hOx hlx sX ⊢;go_upto_region 15 with fail
       have B5:=hB.alloc hB.size (.cells #[.int .u64 (word F 0:Int),.int .u64 (word F 1:Int),.int .u64 (word F 2:Int),.int .u64 (word F 3:Int)] 24);have T5:=IsTab.new wr F;have Oa5:=hOa.new (.cells #[.int .u64 (word F 0:Int),.int .u64 (word F 1:Int),.int .u64 (word F 2:Int),.int .u64 (word F 3:Int)] 24);have Ox5:=hOx.new (.cells #[.int .u64 (word F 0:Int),.int .u64 (word F 1:Int),.int .u64 (word F 2:Int),.int .u64 (word F 3:Int)] 24);have On5:=hOn.new (.cells #[.int .u64 (word F 0:Int),.int .u64 (word F 1:Int),.int .u64 (word F 2:Int),.int .u64 (word F 3:Int)] 24)
       have fa:blockOf ada≠some wr.heap.size:=fun e=>by have:=(hOa.blockGe _ e).2;omega
       have fx:blockOf adx≠some wr.heap.size:=fun e=>by have:=(hOx.blockGe _ e).2;omega
       clear hOa hOx hOn hB d0 d1 d2 d3;generalize wr.alloc (.cells #[.int .u64 (word F 0:Int),.int .u64 (word F 1:Int),.int .u64 (word F 2:Int),.int .u64 (word F 3:Int)] 24)=w5 at B5 T5 Oa5 Ox5 On5 ⊢;unfold Old at hp12 hp13;generalize wr.heap.size=fb at T5 fa fx hp12 hp13 ⊢;go_cut [67] (fun s wc=>s = .bool (!(isC F || hasUpto (fun i=>al.getD i fun _=>false) F al.length))∧Below w5.heap.size w5 wc)
       case first =>
        refine wp_region_vals (fun u=>Below w5.heap.size w5 u) [(54,tab F),(55,tab (fun _=>false)),(56,.bool (!same F (fun _=>false))),(57,.bool (!same F (fun _=>false))),(58,gval (!same F (fun _=>false)) true (tab F)),(59,gval (!same F (fun _=>false)) true (tab (fun _=>true))),(60,gval (!same F (fun _=>false)) true (.bool (!same F (fun _=>true)))),(61,.bool ((!same F (fun _=>false)) && (!same F (fun _=>true)))),(62,.bool ((!same F (fun _=>false)) && (!same F (fun _=>true)))),(63,gval ((!same F (fun _=>false)) && (!same F (fun _=>true))) true (.slice ada al.length capa)),(64,gval ((!same F (fun _=>false)) && (!same F (fun _=>true))) true (tab F)),(65,gval ((!same F (fun _=>false)) && (!same F (fun _=>true))) true (.bool (hasUpto (fun i=>al.getD i fun _=>false) F al.length))),(66,gval ((!same F (fun _=>false)) && (!same F (fun _=>true))) true (.bool (!(hasUpto (fun i=>al.getD i fun _=>false) F al.length)))),(67,.bool (((!same F (fun _=>false)) && (!same F (fun _=>true))) && (!(hasUpto (fun i=>al.getD i fun _=>false) F al.length))))] [54,55,56,57,58,59,60,61,62,63,64,65,66,67] 110 (by kernel_rfl) (by kernel_rfl) rfl rfl (by decide) rfl rfl (Below.refl _ _).drew ?_ ?_
        ·intro i kk hk;match i,hk with
         | 0,hk=>obtain rfl:=Option.some.inj hk;exact vok_plain _ rfl rfl rfl (does_val rfl fun ac u hG hL=>x_load rfl ((hG.other 11 (by decide)).trans rfl) (run_load24 (T5.kept hG.here)))
         | 1,hk=>obtain rfl:=Option.some.inj hk;exact vok_plain _ rfl rfl rfl (does_call #[.bool false] rfl (fun ac u hG hL=>x_call rfl (by have e0:ac.eval (.const (Value.bool false)) = .bool false:=rfl;simp only[List.map_toArray,List.map_cons,List.map_nil,e0]) (fun u=>call11 _ u)) (callS fun u _=>const_any false u))
         | 2,hk=>obtain rfl:=Option.some.inj hk;exact vok_plain _ rfl rfl rfl (does_val rfl fun ac u hG hL=>x_bin rfl (hL ⟨0,.data⟩ (by simp) rfl _ rfl) (hL ⟨1,.data⟩ (by simp) rfl _ rfl) (guard_ne _ _ _ _ _) (run_neT F (fun _=>false) u))
         | 3,hk=>obtain rfl:=Option.some.inj hk;exact vok_plain _ rfl rfl rfl (does_val rfl fun ac u hG hL=>x_move rfl (hL ⟨2,.data⟩ (by simp) rfl _ rfl))
         | 4,hk=>obtain rfl:=Option.some.inj hk;exact vok_maybe _ rfl rfl 3 true 57 (!same F (fun _=>false)) rfl ⟨⟨3,.guard⟩,by simp,rfl,rfl⟩ rfl (fun h=>gval_neg h) (fun hg=>does_if hg (does_val rfl fun ac u hG hL=>x_load rfl ((hG.other 11 (by decide)).trans rfl) (run_load24 (T5.kept hG.here))))
         | 5,hk=>obtain rfl:=Option.some.inj hk;exact vok_maybe _ rfl rfl 3 true 57 (!same F (fun _=>false)) rfl ⟨⟨3,.chain⟩,by simp,rfl,rfl⟩ rfl (fun h=>gval_neg h) (fun hg=>does_if hg (does_call #[.bool true] rfl (fun ac u hG hL=>x_call rfl (by have e0:ac.eval (.const (Value.bool true)) = .bool true:=rfl;simp only[List.map_toArray,List.map_cons,List.map_nil,e0]) (fun u=>call11 _ u)) (callS fun u _=>const_any true u)))
         | 6,hk=>obtain rfl:=Option.some.inj hk;exact vok_maybe _ rfl rfl 3 true 57 (!same F (fun _=>false)) rfl ⟨⟨3,.guard⟩,by simp,rfl,rfl⟩ rfl (fun h=>gval_neg h) (fun hg=>does_if hg (does_val rfl fun ac u hG hL=>x_bin rfl ((hL ⟨4,.data⟩ (by simp) rfl _ rfl).trans (gval_pos hg)) ((hL ⟨5,.data⟩ (by simp) rfl _ rfl).trans (gval_pos hg)) (guard_ne _ _ _ _ _) (run_neT F (fun _=>true) u)))
         | 7,hk=>obtain rfl:=Option.some.inj hk;exact vok_plain _ rfl rfl rfl (does_val rfl fun ac u hG hL=>x_pick (b:=(!same F (fun _=>false))) rfl (hL ⟨3,.data⟩ (by simp) rfl _ rfl) (pick_and (hL ⟨6,.data⟩ (by simp) rfl _ rfl) rfl))
         | 8,hk=>obtain rfl:=Option.some.inj hk;exact vok_plain _ rfl rfl rfl (does_val rfl fun ac u hG hL=>x_move rfl (hL ⟨7,.data⟩ (by simp) rfl _ rfl))
         | 9,hk=>obtain rfl:=Option.some.inj hk;exact vok_maybe _ rfl rfl 8 true 62 ((!same F (fun _=>false)) && (!same F (fun _=>true))) rfl ⟨⟨8,.guard⟩,by simp,rfl,rfl⟩ rfl (fun h=>gval_neg h) (fun hg=>does_if hg (does_val rfl fun ac u hG hL=>x_move rfl ((hG.other 5 (by decide)).trans rfl)))
         | 10,hk=>obtain rfl:=Option.some.inj hk;exact vok_maybe _ rfl rfl 8 true 62 ((!same F (fun _=>false)) && (!same F (fun _=>true))) rfl ⟨⟨8,.guard⟩,by simp,rfl,rfl⟩ rfl (fun h=>gval_neg h) (fun hg=>does_if hg (does_val rfl fun ac u hG hL=>x_load rfl ((hG.other 11 (by decide)).trans rfl) (run_load24 (T5.kept hG.here))))
         | 11,hk=>obtain rfl:=Option.some.inj hk;exact vok_maybe _ rfl rfl 8 true 62 ((!same F (fun _=>false)) && (!same F (fun _=>true))) rfl ⟨⟨8,.chain⟩,by simp,rfl,rfl⟩ rfl (fun h=>gval_neg h) (fun hg=>does_if hg (does_call #[.slice ada al.length capa,tab F] rfl (fun ac u hG hL=>x_call rfl (by have e0:ac.eval (.tmp 63) = .slice ada al.length capa:=((hL ⟨9,.data⟩ (by simp) rfl _ rfl).trans (gval_pos hg));have e1:ac.eval (.tmp 64)=tab F:=((hL ⟨10,.data⟩ (by simp) rfl _ rfl).trans (gval_pos hg));simp only[List.map_toArray,List.map_cons,List.map_nil,e0,e1]) (fun u=>call56 _ u)) (callS fun u s=>in_any ada al.length capa (fun i=>al.getD i fun _=>false) F (by omega) u (Own.tabs (Oa5.below s)))))
         | 12,hk=>obtain rfl:=Option.some.inj hk;exact vok_maybe _ rfl rfl 8 true 62 ((!same F (fun _=>false)) && (!same F (fun _=>true))) rfl ⟨⟨8,.guard⟩,by simp,rfl,rfl⟩ rfl (fun h=>gval_neg h) (fun hg=>does_if hg (does_val rfl fun ac u hG hL=>x_un rfl ((hL ⟨11,.data⟩ (by simp) rfl _ rfl).trans (gval_pos hg)) (run_notB _ u)))
         | 13,hk=>obtain rfl:=Option.some.inj hk;exact vok_plain _ rfl rfl rfl (does_val rfl fun ac u hG hL=>x_pick (b:=((!same F (fun _=>false)) && (!same F (fun _=>true)))) rfl (hL ⟨8,.data⟩ (by simp) rfl _ rfl) (pick_and (hL ⟨12,.data⟩ (by simp) rfl _ rfl) rfl))
         | i+14,hk=>simp at hk
        ·intro wz bz;simp only[vfin,Act.put,List.setIfInBounds_toArray,List.set_cons_succ,List.set_cons_zero]
         go_wp2_with fail
         go_meet
         exact⟨by unfold isC;generalize same F (fun _=>false)=s0;generalize same F (fun _=>true)=s1;generalize hasUpto (fun i=>al.getD i fun _=>false) F al.length=s2;cases s0 <;> cases s1 <;> cases s2 <;> rfl,bz⟩
       case rest =>
        obtain⟨rfl,hbc⟩:=hcut;have Bc:=below_far B5 hbc;have Tc:=T5.kept hbc;have Oac:=Oa5.below hbc;have Oxc:=Ox5.below hbc;have Onc:=On5.below hbc;clear B5 T5 Oa5 Ox5 On5 hbc;have Bcs:=Bc.size;obtain⟨h0,hh0⟩:∃h0,(isC F || hasUpto (fun i=>al.getD i fun _=>false) F al.length)=h0:=⟨_,rfl⟩
        rw[hh0];obtain⟨t0,t1,t2,t3⟩:=Tc.copy;go_upto_if 67 with fail
        go_cut [5] (fun s wd=>∃ad' cap',s = .slice ad' (allStep al F).length cap'∧Own wd w.heap.size ad' (allStep al F) cap'∧Own wd w.heap.size adx xs capx∧Own wd w.heap.size (some ⟨b,off,none⟩) us capn∧Apart ad' (some ⟨b,off,none⟩)∧Apart ad' adx∧blockOf ad'≠some fb∧IsTab wd fb F∧Below w.heap.size w wd)
        case first =>
         cases h0 with
         | true =>
          have hE:allStep al F=al:=by
           unfold allStep;by_cases hc:isC F=true
           ·rw[if_pos hc]
           ·rw[if_neg hc]
            have:isC F=false:=by simpa using hc
            rw[this,Bool.false_or]at hh0;exact addN_skip hh0
          have hE':Aside (allStep al F=al):=hE;clear hE hh0
          go_wp2_with fail
          go_meet
          rw[hE'.out];exact⟨ada,capa,rfl,Oac,Oxc,Onc,hap,hax,fa,Tc,Bc⟩
         | false =>
          have hE:allStep al F=al ++ [F]:=by
           have hc:isC F=false:=by revert hh0;cases isC F <;> simp
           rw[hc,Bool.false_or]at hh0;unfold allStep;rw[hc];exact addN_new hh0
          have hE':Aside (allStep al F=al ++ [F]):=hE;clear hE hh0
          go_wp2_with (first
           | (at_builtin;refine append_tab (Oac.new _) F wc.heap.size (IsTab.new wc F) (by omega) (by simp;omega) rfl _ _ rfl rfl rfl ?_;intro g cap' w7 o7 g7 at7 lt7))
          go_meet
          rw[hE'.out];exact⟨some ⟨g,0,none⟩,cap',by simp,o7,(Oxc.new _).aside hax g7,(Onc.new _).aside hap g7,hap.after (Onc.new _) at7,hax.after (Oxc.new _) at7,block_after fa (Tc.alloc _).lt at7,(Tc.alloc _).aside fa g7,(Bc.alloc Bcs _).grown g7 (by simp;omega) (fun k hk=>(Oac.blockGe k hk).1)⟩
        case rest =>
         clear Oac Oxc Onc Tc Bc Bcs t0 t1 t2 t3 hap hax fa hh0;obtain⟨ad',cap',rfl,Oa,Ox,On,hap,hax,fa,Tf,Bd⟩:=hcut;have hal:(allStep al F).length≤al.length+1:=by
          unfold allStep;split
          ·omega
          ·exact addN_le al F
         generalize allStep al F=bl at Oa sA hal ⊢;obtain⟨t0,t1,t2,t3⟩:=Tf.copy;have Bds:=Bd.size;cases last with
         | true =>
          have sX':Aside (lvX true (V k') us (i+1)=xs):=by simp only[Aside];rw[sX.out];rfl
          clear sX;have hx:k'=n∨(¬k'=n∧k'=8):=by
           have:=hLast.out;simp at this;omega
          rcases hx with hx|⟨hx,hx8⟩
          ·have g1:((k':Int) == (n:Int))=true:=by simp[hx]
           clear hx
           go_wp2_with fail
           go_roundg (gk-1)
           case measure=>have:=hI.out;omega
           case rel =>
            have:=hI.out;exact⟨i+1,ad',cap',adx,capx,by omega,rfl,by rw[sA.out],by rw[sX'.out],by rw[sA.out];exact Oa,by rw[sX'.out];exact Ox,On,hap,hxp,hax,Bd,old_lt hp12 Tf,old_lt hp13 Tf⟩
          ·have g1:((k':Int) == (n:Int))=false:=by simp;omega
           have g2:((k':Int) == 8)=true:=by simp;omega
           clear hx hx8
           go_wp2_with fail
           go_roundg (gk-1)
           case measure=>have:=hI.out;omega
           case rel =>
            have:=hI.out;exact⟨i+1,ad',cap',adx,capx,by omega,rfl,by rw[sA.out],by rw[sX'.out],by rw[sA.out];exact Oa,by rw[sX'.out];exact Ox,On,hap,hxp,hax,Bd,old_lt hp12 Tf,old_lt hp13 Tf⟩
         | false =>
          have hx:¬k'=n∧¬k'=8:=by
           have:=hLast.out;simp at this;omega
          have g1:((k':Int) == (n:Int))=false:=by simp;omega
          have g2:((k':Int) == 8)=false:=by simp;omega
          have kn:(k':Int)<(n:Int):=by omega
          have kn':k'<n:=by omega
          have hV:=hv.kept Bd;obtain⟨bv,ov,hadv,hbv⟩:=hV.some (by omega);subst hadv;have cv:=hV.get kn'
          go_wp2_with fail
          refine wp_region_tabs' [.val 80 (tab F),.val 81 (.slice (some ⟨bv,ov,none⟩) n capv),.val 82 (.int .i64 (k':Int)),.val 83 (.pointer (some ⟨bv,ov+k',none⟩)),.val 84 (.int .i64 (V k')),.val 85 (tab (fixI F (V k') false)),.val 86 (tab F),.val 87 (.slice (some ⟨bv,ov,none⟩) n capv),.val 88 (.int .i64 (k':Int)),.val 89 (.pointer (some ⟨bv,ov+k',none⟩)),.val 90 (.int .i64 (V k')),.val 91 (tab (fixI F (V k') true)),.new 12,.new 13,.put 12 (fixI F (V k') false),.put 13 (fixI F (V k') true)] [80,81,82,83,84,85,86,87,88,89,90,91,12,13] [12,13] [12,13] 110 (by kernel_rfl) (by kernel_rfl) rfl rfl rfl rfl (by decide) (by decide) rfl rfl ?_ ?_ ?_
          ·intro s hs c hc;have hlt:=Tf.lt;simp only[List.mem_cons,List.not_mem_nil,or_false]at hs;rcases hs with rfl|rfl
           ·have:=hp12 c hc;omega
           ·have:=hp13 c hc;omega
          ·intro i kk hk;match i,hk with
           | 0,hk=>obtain rfl:=Option.some.inj hk;exact⟨_,rfl,rfl,rfl,fun a u hG hpre K hK=>wp_load (b:=fb) rfl rfl ((hG.other 11 (by decide)).trans rfl) (Tf.kept hG.below) hK⟩
           | 1,hk=>obtain rfl:=Option.some.inj hk;exact⟨_,rfl,rfl,rfl,fun a u hG hpre K hK=>wp_move rfl rfl ((hG.other 1 (by decide)).trans rfl) hK⟩
           | 2,hk=>obtain rfl:=Option.some.inj hk;exact⟨_,rfl,rfl,rfl,fun a u hG hpre K hK=>wp_move rfl rfl ((hG.other 8 (by decide)).trans rfl) hK⟩
           | 3,hk=>obtain rfl:=Option.some.inj hk;exact⟨_,rfl,rfl,rfl,fun ac u hG hpre K hK=>wp_val rfl (x_index rfl (hpre ⟨1,.data⟩ (by simp) rfl _ rfl) (hpre ⟨2,.data⟩ (by simp) rfl _ rfl) (run_idx38 bv ov k' n capv kn' u)) (hK u (Below.refl _ _))⟩
           | 4,hk=>obtain rfl:=Option.some.inj hk;exact⟨_,rfl,rfl,rfl,fun ac u hG hpre K hK=>wp_val rfl (x_load rfl (hpre ⟨3,.data⟩ (by simp) rfl _ rfl) (run_load3 ((hV.kept hG.below).get kn'))) (hK u (Below.refl _ _))⟩
           | 5,hk =>
            obtain rfl:=Option.some.inj hk;refine⟨_,rfl,rfl,rfl,fun ac u hG hpre K hK=>?_⟩;have e0:ac.eval (.tmp 80)=tab F:=hpre ⟨0,.data⟩ (by simp) rfl _ rfl;have e1:ac.eval (.tmp 84) = .int .i64 (V k'):=hpre ⟨4,.data⟩ (by simp) rfl _ rfl;have e2:ac.eval (.const (.bool false)) = .bool false:=rfl;exact wp_call rfl (run_call rfl #[tab F,.int .i64 (V k'),.bool false] (fun vs=>call27 vs u) (by simp only[List.map_toArray,List.map_cons,List.map_nil,e0,e1,e2])) (fix_int F (V k') false u) hK
           | 6,hk=>obtain rfl:=Option.some.inj hk;exact⟨_,rfl,rfl,rfl,fun a u hG hpre K hK=>wp_load (b:=fb) rfl rfl ((hG.other 11 (by decide)).trans rfl) (Tf.kept hG.below) hK⟩
           | 7,hk=>obtain rfl:=Option.some.inj hk;exact⟨_,rfl,rfl,rfl,fun a u hG hpre K hK=>wp_move rfl rfl ((hG.other 1 (by decide)).trans rfl) hK⟩
           | 8,hk=>obtain rfl:=Option.some.inj hk;exact⟨_,rfl,rfl,rfl,fun a u hG hpre K hK=>wp_move rfl rfl ((hG.other 8 (by decide)).trans rfl) hK⟩
           | 9,hk=>obtain rfl:=Option.some.inj hk;exact⟨_,rfl,rfl,rfl,fun ac u hG hpre K hK=>wp_val rfl (x_index rfl (hpre ⟨7,.data⟩ (by simp) rfl _ rfl) (hpre ⟨8,.data⟩ (by simp) rfl _ rfl) (run_idx38 bv ov k' n capv kn' u)) (hK u (Below.refl _ _))⟩
           | 10,hk=>obtain rfl:=Option.some.inj hk;exact⟨_,rfl,rfl,rfl,fun ac u hG hpre K hK=>wp_val rfl (x_load rfl (hpre ⟨9,.data⟩ (by simp) rfl _ rfl) (run_load3 ((hV.kept hG.below).get kn'))) (hK u (Below.refl _ _))⟩
           | 11,hk =>
            obtain rfl:=Option.some.inj hk;refine⟨_,rfl,rfl,rfl,fun ac u hG hpre K hK=>?_⟩;have e0:ac.eval (.tmp 86)=tab F:=hpre ⟨6,.data⟩ (by simp) rfl _ rfl;have e1:ac.eval (.tmp 90) = .int .i64 (V k'):=hpre ⟨10,.data⟩ (by simp) rfl _ rfl;have e2:ac.eval (.const (.bool true)) = .bool true:=rfl;exact wp_call rfl (run_call rfl #[tab F,.int .i64 (V k'),.bool true] (fun vs=>call27 vs u) (by simp only[List.map_toArray,List.map_cons,List.map_nil,e0,e1,e2])) (fix_int F (V k') true u) hK
           | 12,hk=>obtain rfl:=Option.some.inj hk;exact⟨_,rfl,rfl,rfl,rfl⟩
           | 13,hk=>obtain rfl:=Option.some.inj hk;exact⟨_,rfl,rfl,rfl,rfl⟩
           | 14,hk=>obtain rfl:=Option.some.inj hk;exact⟨_,rfl,rfl,rfl,85,rfl,⟨⟨5,.data⟩,by simp,rfl,rfl⟩,⟨⟨12,.data⟩,by simp,rfl,rfl⟩⟩
           | 15,hk=>obtain rfl:=Option.some.inj hk;exact⟨_,rfl,rfl,rfl,91,rfl,⟨⟨11,.data⟩,by simp,rfl,rfl⟩,⟨⟨13,.data⟩,by simp,rfl,rfl⟩⟩
           | i+16,hk=>simp at hk
          ·intro bp we hbe hnew hne hput;have TA:=hput 12 (fixI F (V k') false) (by simp);have TB:=hput 13 (fixI F (V k') true) (by simp);have nA:=hnew 12 (by simp);have nB:=hnew 13 (by simp);clear hput hnew hne;simp only[fin,Kind.dst?,kval,Act.put,ptr,List.setIfInBounds_toArray,List.set_cons_succ,List.set_cons_zero];generalize bp 12=pa at TA nA ⊢;generalize bp 13=pb at TB nB ⊢;have Oae:=Oa.below hbe;have Oxe:=Ox.below hbe;have One:=On.below hbe;have Be:=below_far Bd hbe;have fpa:blockOf adx≠some pa:=fun e=>by have:=(Ox.blockGe _ e).2;have:=nA.1;omega
           have fpb:blockOf adx≠some pb:=fun e=>by have:=(Ox.blockGe _ e).2;have:=nB.1;omega
           have sX':Aside (lvX false (V k') us (i+1)=addN (addN xs (fixI F (V k') false)) (fixI F (V k') true)):=sX.out;have hxs:xs.length≤512000:=by omega
           clear sX hbe Oa Ox On Tf Bd Bds t0 t1 t2 t3 cv hV fa fx hp12 hp13 hbv nA nB;generalize (fixI F (V k') false)=A at TA sX' ⊢;generalize (fixI F (V k') true)=B at TB sX' ⊢;go_upto_region 19 with fail
           refine wp_region_valsq (fun u=>Below we.heap.size we u) [(92,.slice adx xs.length capx),(93,tab A),(94,.bool (hasUpto (fun i=>xs.getD i fun _=>false) A xs.length)),(95,.bool (!(hasUpto (fun i=>xs.getD i fun _=>false) A xs.length)))] [92,93,94,95] 110 (by kernel_rfl) rfl rfl (by decide) rfl rfl (Below.refl _ _) ?_ ?_
           ·intro i kk hk;match i,hk with
            | 0,hk=>obtain rfl:=Option.some.inj hk;exact vok_plain _ rfl rfl rfl (does_val rfl fun ac u hG hL=>x_move rfl ((hG.other 9 (by decide)).trans rfl))
            | 1,hk=>obtain rfl:=Option.some.inj hk;exact vok_plain _ rfl rfl rfl (does_val rfl fun ac u hG hL=>x_load rfl ((hG.other 12 (by decide)).trans rfl) (run_load24 (TA.kept hG.here)))
            | 2,hk=>obtain rfl:=Option.some.inj hk;exact vok_plain _ rfl rfl rfl (does_call #[.slice adx xs.length capx,tab A] rfl (fun ac u hG hL=>x_call rfl (by have e0:ac.eval (.tmp 92) = .slice adx xs.length capx:=(hL ⟨0,.data⟩ (by simp) rfl _ rfl);have e1:ac.eval (.tmp 93)=tab A:=(hL ⟨1,.data⟩ (by simp) rfl _ rfl);simp only[List.map_toArray,List.map_cons,List.map_nil,e0,e1]) (fun u=>call56 _ u)) (callS fun u s=>in_any adx xs.length capx (fun i=>xs.getD i fun _=>false) A (by omega) u (Own.tabs (Oxe.below s))))
            | 3,hk=>obtain rfl:=Option.some.inj hk;exact vok_plain _ rfl rfl rfl (does_val rfl fun ac u hG hL=>x_un rfl (hL ⟨2,.data⟩ (by simp) rfl _ rfl) (run_notB _ u))
            | i+4,hk=>simp at hk
           ·intro wf bf;simp only[vfin,Act.put,List.setIfInBounds_toArray,List.set_cons_succ,List.set_cons_zero];have Oaf:=Oae.below bf;have Oxf:=Oxe.below bf;have Onf:=One.below bf;have Bf:=below_far Be bf;have Bfs:=Bf.size;have TAf:=TA.kept bf;have TBf:=TB.kept bf;clear Oae Oxe One Be TA TB bf;obtain⟨h1,hh1⟩:∃h1,hasUpto (fun i=>xs.getD i fun _=>false) A xs.length=h1:=⟨_,rfl⟩
            rw[hh1];have HH:Aside (hasUpto (fun i=>xs.getD i fun _=>false) A xs.length=h1):=hh1;clear hh1;obtain⟨t0,t1,t2,t3⟩:=TAf.copy;go_upto_if 95 with fail
            go_cut [9] (fun s wd=>∃ady capy,s = .slice ady (addN xs A).length capy∧Own wd w.heap.size ady (addN xs A) capy∧Own wd w.heap.size ad' bl cap'∧Own wd w.heap.size (some ⟨b,off,none⟩) us capn∧Apart ady (some ⟨b,off,none⟩)∧Apart ad' ady∧blockOf ady≠some pb∧IsTab wd pa A∧IsTab wd pb B∧Below w.heap.size w wd)
            case first =>
             cases h1 with
             | true =>
              have hE':Aside (addN xs A=xs):=addN_skip HH.out
              go_wp2_with fail
              go_meet
              rw[hE'.out];exact⟨adx,capx,rfl,Oxf,Oaf,Onf,hxp,hax,fpb,TAf,TBf,Bf⟩
             | false =>
              have hE':Aside (addN xs A=xs ++ [A]):=addN_new HH.out
              go_wp2_with (first
               | (at_builtin;refine append_tab (Oxf.new _) A wf.heap.size (IsTab.new wf A) (by omega) (by simp;omega) rfl _ _ rfl rfl rfl ?_;intro g cap2 w7 o7 g7 at7 lt7))
              go_meet
              rw[hE'.out];exact⟨some ⟨g,0,none⟩,cap2,by simp,o7,(Oaf.new _).aside hax.symm g7,(Onf.new _).aside hxp g7,hxp.after (Onf.new _) at7,(hax.symm.after (Oaf.new _) at7).symm,block_after fpb (TBf.alloc _).lt at7,(TAf.alloc _).aside fpa g7,(TBf.alloc _).aside fpb g7,(Bf.alloc Bfs _).grown g7 (by simp;omega) (fun k hk=>(Oxf.blockGe k hk).1)⟩
            case rest =>
             clear Oaf Oxf Onf Bf Bfs TAf TBf t0 t1 t2 t3 fpa fpb HH hax hxp;obtain⟨ady,capy,rfl,Oyd,Oad,Ond,hyp,hay,fpb,TAd,TBd,Bd⟩:=hcut;have hyl:=addN_le xs A;generalize addN xs A=ys at Oyd sX' hyl ⊢;go_upto_region 21 with fail
             refine wp_region_valsq (fun u=>Below wc.heap.size wc u) [(100,.slice ady ys.length capy),(101,tab B),(102,.bool (hasUpto (fun i=>ys.getD i fun _=>false) B ys.length)),(103,.bool (!(hasUpto (fun i=>ys.getD i fun _=>false) B ys.length)))] [100,101,102,103] 110 (by kernel_rfl) rfl rfl (by decide) rfl rfl (Below.refl _ _) ?_ ?_
             ·intro i kk hk;match i,hk with
            | 0,hk=>obtain rfl:=Option.some.inj hk;exact vok_plain _ rfl rfl rfl (does_val rfl fun ac u hG hL=>x_move rfl ((hG.other 9 (by decide)).trans rfl))
            | 1,hk=>obtain rfl:=Option.some.inj hk;exact vok_plain _ rfl rfl rfl (does_val rfl fun ac u hG hL=>x_load rfl ((hG.other 13 (by decide)).trans rfl) (run_load24 (TBd.kept hG.here)))
            | 2,hk=>obtain rfl:=Option.some.inj hk;exact vok_plain _ rfl rfl rfl (does_call #[.slice ady ys.length capy,tab B] rfl (fun ac u hG hL=>x_call rfl (by have e0:ac.eval (.tmp 100) = .slice ady ys.length capy:=(hL ⟨0,.data⟩ (by simp) rfl _ rfl);have e1:ac.eval (.tmp 101)=tab B:=(hL ⟨1,.data⟩ (by simp) rfl _ rfl);simp only[List.map_toArray,List.map_cons,List.map_nil,e0,e1]) (fun u=>call56 _ u)) (callS fun u s=>in_any ady ys.length capy (fun i=>ys.getD i fun _=>false) B (by omega) u (Own.tabs (Oyd.below s))))
            | 3,hk=>obtain rfl:=Option.some.inj hk;exact vok_plain _ rfl rfl rfl (does_val rfl fun ac u hG hL=>x_un rfl (hL ⟨2,.data⟩ (by simp) rfl _ rfl) (run_notB _ u))
            | i+4,hk=>simp at hk
             ·intro wf bf;simp only[vfin,Act.put,List.setIfInBounds_toArray,List.set_cons_succ,List.set_cons_zero];have Oaf:=Oad.below bf;have Oyf:=Oyd.below bf;have Onf:=Ond.below bf;have Bf:=below_far Bd bf;have Bfs:=Bf.size;have TAf:=TAd.kept bf;have TBf:=TBd.kept bf;clear Oad Oyd Ond Bd TAd TBd bf;obtain⟨h1,hh1⟩:∃h1,hasUpto (fun i=>ys.getD i fun _=>false) B ys.length=h1:=⟨_,rfl⟩
              rw[hh1];have HH:Aside (hasUpto (fun i=>ys.getD i fun _=>false) B ys.length=h1):=hh1;clear hh1;obtain⟨t0,t1,t2,t3⟩:=TBf.copy;cases h1 with
              | true =>
               have sY:Aside (lvX false (V k') us (i+1)=ys):=sX'.out.trans (addN_skip HH.out)
               go_wp2_with fail
               go_roundg (gk-1)
               case measure=>have:=hI.out;omega
               case rel =>
                have:=hI.out;exact⟨i+1,ad',cap',ady,capy,by omega,rfl,by rw[sA.out],by rw[sY.out],by rw[sA.out];exact Oaf,by rw[sY.out];exact Oyf,Onf,hap,hyp,hay,Bf,old_ptr TAf.lt,old_ptr TBf.lt⟩
              | false =>
               have sY:Aside (lvX false (V k') us (i+1)=ys ++ [B]):=sX'.out.trans (addN_new HH.out)
               go_wp2_with (first
                | (at_builtin;refine append_tab (Oyf.new _) B wf.heap.size (IsTab.new wf B) (by omega) (by simp;omega) rfl _ _ rfl rfl rfl ?_;intro g cap2 w7 o7 g7 at7 lt7))
               go_roundg (gk-1)
               case measure=>have:=hI.out;omega
               case rel =>
                have:=hI.out;have fya:blockOf ady≠some pb:=fpb;exact⟨i+1,ad',cap',some ⟨g,0,none⟩,cap2,by omega,rfl,by rw[sA.out],by rw[sY.out];simp,by rw[sA.out];exact(Oaf.new _).aside hay.symm g7,by rw[sY.out];exact o7,(Onf.new _).aside hyp g7,hap,hyp.after (Onf.new _) at7,(hay.symm.after (Oaf.new _) at7).symm,(Bf.alloc Bfs _).grown g7 (by simp;omega) (fun k hk=>(Oyf.blockGe k hk).1),old_ptr (Nat.lt_of_lt_of_le (TAf.alloc _).lt g7.size),old_ptr (Nat.lt_of_lt_of_le (TBf.alloc _).lt g7.size)⟩
      ·obtain rfl:i=us.length:=by have:=hI.out;omega
       go_wp2_with fail
       go_roundg (min n 8-k')
       case measure=>have:=hK2.out;omega
       case rel =>
        have:=hK2.out;exact⟨k'+1,ada,capa,adx,capx,by omega,rfl,by rw[hP'.out],by rw[hP'.out],by rw[hP'.out];exact hOa,by rw[hP'.out];exact hOx,hax,hB,hp12,hp13⟩
    ·have e9:Aside (k'=min n 8+1):=by have:=hK2.out;show k'=min n 8+1;omega
     by_cases hkn:(k':Int)≤(n:Int)
     ·have h9:¬(k':Int)≤8:=by have:=e9.out;omega
      go_wp2_with fail
      go_ret
      rw[hR.out,← e9.out];exact⟨⟨ada,capa,rfl,hOa⟩,hB⟩
     ·go_wp2_with fail
      go_ret
      rw[hR.out,← e9.out];exact⟨⟨ada,capa,rfl,hOa⟩,hB⟩
end Go.Proofs.YtnnmdkaoiofabaaGreat.Rf
