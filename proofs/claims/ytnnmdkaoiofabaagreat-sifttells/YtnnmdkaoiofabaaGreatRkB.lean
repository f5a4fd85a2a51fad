/-
  A pair is laid at the row's end, or taken from it: the row and the map. The heap of the library over the queue's row: up, down. The heap of the library over the queue's row: a pair is pushed, removed from its place, set right behind a change. The steps at a place, and the two ways to a place: the top, the place of a number. What each call of package ranks does to a queue that holds numbers with their keys.
-/
import Derived.Test.YtnnmdkaoiofabaaGreatRkA
import Derived.Deep.RegionLaw
namespace Go.Proofs.YtnnmdkaoiofabaaGreat.Rk
open Go Go.RowKit
structure Went (S S':Nat→Prop) (w w':World):Prop where
 moved:Moved S w w'
 new:∀k,S' k→S k∨w.heap.size≤k
theorem Went.trans {S T U:Nat→Prop}{a b c:World}(h:Went S T a b) (k:Went T U b c):Went S U a c:=
 ⟨h.moved.then_ k.moved h.new,fun i hi=>by
  rcases k.new i hi with t|t
  ·exact h.new i t
  ·exact .inr (Nat.le_trans h.moved.size t)⟩
theorem Went.same {S:Nat→Prop}{w w':World}(h:Moved S w w'):Went S S w w':=⟨h,fun _ hk=>.inl hk⟩
theorem step_append {ops:Array Oper}{o:Oper}{a:Act}{w w':World}{K:Act→World→Prop}{Q:Exit→Act→World→Prop}{E:Prop}
  (hg:o.guard=none) (s x:Operand) (hop:o.op=Op.call { callee:=Callee.builtin Builtin.append,args:=#[s,x],argTypes:=#[155,155] })
  (v u r:Value) (hs:a.eval s=v) (hx:a.eval x=u) (hrun:(Builtin.append_ #[155,155] o.type #[v,u]).run Tryz.prog w = .ok r w')
  (hK:K (a.put o.dst r) w') :
  if Region.wanted o (yielded ops a.tmps)=true then Oper.wp Tryz.prog o a w K Q else E:=by
 have hw:Region.wanted o (yielded ops a.tmps)=true:=by simp[Region.wanted,hg]
 rw[if_pos hw];unfold Oper.wp;simp[execOp,hop,resolve,invoke,builtin,hs,hx,hrun,Result.andThen];exact hK
theorem append_pair {w:World}{ad:Option Addr}{n cap:Nat}{I:Nat→Int×Int}(h:OwnP w ad n cap I){B:Nat}(hB:Blk ad fun b=>B≤b) (hBw:B≤w.heap.size) (hn:n≤1000000)
  (blk:Nat) (x:Int×Int) (hx:w.heap[blk]? = some (.cells #[.int .i64 x.1,.int .i64 x.2] 101 (0,0))) (ty:TypeId) :
  ∃g cap' w',(Builtin.append_ #[155,155] ty #[.slice ad n cap,.slice (some ⟨blk,0,none⟩) 1 1]).run Tryz.prog w = .ok (.slice (some ⟨g,0,none⟩) (n+1) cap') w'∧PairsAt w' g (n+1) cap' (setP I n x)∧B≤g∧(ad=some ⟨g,0,none⟩∨g=w.heap.size)∧Moved (fun k=>ad=some ⟨k,0,none⟩) w w':=by
 obtain⟨i,hi,hz,hsz,hby⟩:=info_parts info30;have hnews:∀j u,[Value.int .i64 x.1,.int .i64 x.2][j]? = some u→w.cell? ((⟨blk,0,none⟩:Addr).add j)=some u:=by
  intro j u hu;match j,hu with
  | 0,hu=>simp at hu;subst hu;simp[Addr.add,World.cell?,hx]
  | 1,hu=>simp at hu;subst hu;simp[Addr.add,World.cell?,hx]
  | j+2,hu=>simp at hu
 obtain⟨v',w',hrun,r1,r2,r3,r4⟩:=run_append_own_at (P:=Tryz.prog) w B 155 ty 101 i _ 2 16 Tryz.underlying155 hi hz hsz hby (by kernel_rfl) (by decide) (.slice ad n cap) n (pairsL n I) (h.owns hB) ⟨blk,0,none⟩ 1 1 [.int .i64 x.1,.int .i64 x.2] rfl hnews
  (by intro u hu;simp at hu;rcases hu with rfl|rfl <;> rfl) (by simp only[maxLen];omega) (by omega) hBw
 have e1:pairsL n I ++ [.int .i64 x.1,.int .i64 x.2]=pairsL (n+1) (setP I n x):=by
  rw[pairsL_succ,setP_same,pairsL_congr fun i hi=>(setP_other I x (show i≠n by omega)).symm]
 rw[e1]at r1;obtain⟨ad',cap',rfl,ho,hb⟩:=OwnP.of_owns r1;obtain⟨g,rfl,hp⟩:=ho.form (by omega);have hob:(Value.slice ad n cap).ownBlock=ad.map (·.block):=by cases ad <;> rfl
 have hform:∀a,ad=some a→a=⟨a.block,0,none⟩:=by
  intro a ha;rcases h with ⟨h,_⟩|⟨g',h,_⟩
  ·rw[h]at ha;cases ha
  ·rw[h]at ha;cases ha;rfl
 refine⟨g,cap',w',hrun,hp,hb _ rfl,?_,⟨r2.os,r2.tape,r2.output,r2.size,fun k hk hS=>r2.block k hk fun e=>hS ?_⟩⟩
 ·rcases r4 with r4|r4
  ·left;rw[hob]at r4;cases ad with
   | none=>simp[Value.ownBlock]at r4
   | some a =>
    simp[Value.ownBlock]at r4;rw[hform a rfl,r4]
  ·right;simpa[Value.ownBlock]using r4
 ·rw[hob]at e;cases ad with
  | none=>simp at e
  | some a =>
   simp at e;rw[hform a rfl,e]
theorem eql_some (m:Nat) (w:World):(binOp BinOp.eql 156 (.map (some m)) (.map none)).run Tryz.prog w = .ok (.bool false) w:=by kernel_rfl
theorem eql_none (w:World):(binOp BinOp.eql 156 (.map none) (.map none)).run Tryz.prog w = .ok (.bool true) w:=by kernel_rfl
theorem assert_item (v:Value) (w:World):(Instr.typeAssert (.iface 101 v) 20 101 false).run Tryz.prog w = .ok v w:=by kernel_rfl
theorem places_push {n:Nat}{I:Nat→Int×Int}{P:Int→Option Int}(hP:Places n I P) (x:Int×Int) (hx:∀i,i<n→(I i).1≠x.1):Places (n+1) (setP I n x) (at1 P x.1 (some (n:Int))):=by
 intro k j;unfold at1;by_cases e:k=x.1
 ·subst e;rw[if_pos rfl,Option.some.injEq];constructor
  ·rintro rfl;exact⟨n,by omega,by rw[setP_same],rfl⟩
  ·rintro⟨i,hi,hk,rfl⟩;by_cases e2:i=n
   ·rw[e2]
   ·rw[setP_other I x e2]at hk;exact absurd hk (hx i (by omega))
 ·rw[if_neg e,hP k j];constructor
  ·rintro⟨i,hi,hk,rfl⟩;exact⟨i,by omega,by rw[setP_other I x (show i≠n by omega)];exact hk,rfl⟩
  ·rintro⟨i,hi,hk,rfl⟩;by_cases e2:i=n
   ·subst e2;rw[setP_same]at hk;exact absurd hk.symm e
   ·rw[setP_other I x e2]at hk;exact⟨i,by omega,hk,rfl⟩
theorem ids_push {n:Nat}{I:Nat→Int×Int}(h:Ids n I) (x:Int×Int) (hx:∀i,i<n→(I i).1≠x.1):Ids (n+1) (setP I n x):=by
 intro i j hi hj e;by_cases ei:i=n
 ·by_cases ej:j=n
  ·omega
  ·rw[ei,setP_same,setP_other I x ej]at e;exact absurd e.symm (hx j (by omega))
 ·by_cases ej:j=n
  ·rw[ej,setP_same,setP_other I x ei]at e;exact absurd e (hx i (by omega))
  ·rw[setP_other I x ei,setP_other I x ej]at e;exact h i j (by omega) (by omega) e
section
variable {w:World}{Q n cap:Nat}{ad:Option Addr}{mp:Option Nat}{I:Nat→Int×Int}
theorem push_facts {m:Nat}(h:IsQ w Q ad n cap (some m) I) (x:Int×Int) (hx:∀i,i<n→(I i).1≠x.1) (hn:n≤1000000) (S:Nat) (hS:w.heap.size=S):∃(w2 w3:World) (g cap':Nat),
  (Instr.mapUpdate 156 (.map (some m)) (.int .i64 x.1) (.int .i64 (n:Int))).run Tryz.prog (w.alloc (.cells #[.int .i64 x.1,.int .i64 x.2] 101)).drew = .ok () w2 ∧
  w2.cell? ⟨Q,0,none⟩=some (.slice ad n cap)∧w2.cell? ⟨S,0,none⟩=some (.int .i64 x.1)∧w2.cell? ⟨S,1,none⟩=some (.int .i64 x.2)∧w2.heap.size=S+1 ∧
  (Builtin.append_ #[155,155] 155 #[.slice ad n cap,.slice (some ⟨S+1,0,none⟩) 1 1]).run Tryz.prog (w2.alloc (.cells #[.int .i64 x.1,.int .i64 x.2] 101)).drew = .ok (.slice (some ⟨g,0,none⟩) (n+1) cap') w3 ∧
  w3.cell? ⟨Q,0,none⟩=some (.slice ad n cap)∧w3.frozen? ⟨Q,0,none⟩=false ∧
  IsQ (w3.setCell ⟨Q,0,none⟩ (.slice (some ⟨g,0,none⟩) (n+1) cap')) Q (some ⟨g,0,none⟩) (n+1) cap' (some m) (setP I n x) ∧
  Went (Foot Q ad (some m)) (Foot Q (some ⟨g,0,none⟩) (some m)) w (w3.setCell ⟨Q,0,none⟩ (.slice (some ⟨g,0,none⟩) (n+1) cap')):=by
 have hQ:=h.lt;obtain⟨P,hM,hP,hQm⟩:=h.some_ m rfl;have h1:=h.new (.cells #[.int .i64 x.1,.int .i64 x.2] 101);have hM1:IsMap (w.alloc (.cells #[.int .i64 x.1,.int .i64 x.2] 101)).drew m P:=hM.same (Below.heap_alloc _ _ _ hM.lt);obtain⟨w2,hr2,hM2,t2⟩:=map_put hM1 x.1 (n:Int);have hmL:m<w.heap.size:=hM.lt;have hd2:w2.heap[Q]? = _:=(t2.block Q (by omega)).trans h1.head;have hn2:w2.heap[w.heap.size]? = some (.cells #[.int .i64 x.1,.int .i64 x.2] 101 (0,0)):=(t2.block _ (by omega)).trans (MapKept.heap_alloc w _).1;have hs2:w2.heap.size=w.heap.size+1:=by rw[t2.size];simp
 have hadm:∀a,ad=some a→a.block≠m:=fun a ha e=>by
  rcases h.row with ⟨hh,_⟩|⟨g,hh,cur,hb,_⟩
  ·rw[hh]at ha;cases ha
  ·rw[hh]at ha;cases ha;obtain⟨es,clock,l,hb',_⟩:=hM;rw[← e,hb]at hb';cases hb'
 have ho2:OwnP w2 ad n cap I:=h1.row.kept fun a ha=>t2.block _ (hadm a ha)
 obtain⟨g,cap',w3,hr3,hp3,hg3,hg3',mv3⟩:=append_pair (w:=(w2.alloc (.cells #[.int .i64 x.1,.int .i64 x.2] 101)).drew) (B:=Q+1) (ho2.kept fun a ha=>Below.heap_alloc _ _ _ (ho2.lt a ha)) h.apart (by simp[hs2];omega) hn (w.heap.size+1) x (by have:=(MapKept.heap_alloc w2 (.cells #[.int .i64 x.1,.int .i64 x.2] 101)).1;rw[hs2]at this;exact this) 155;have hadQ:¬ad=some ⟨Q,0,none⟩:=fun e=>by have:Q<Q:=h.apart _ e;omega
 have hd3:w3.heap[Q]? = some (.cells #[.slice ad n cap,.map (some m)] 160 (0,0)):=(mv3.block Q (by simp[hs2];omega) hadQ).trans ((Below.heap_alloc w2 (.cells #[.int .i64 x.1,.int .i64 x.2] 101) Q (by omega)).trans hd2);have hM3:IsMap w3 m (at1 P x.1 (some (n:Int))):=hM2.same ((mv3.block m (by simp[hs2];omega) fun e=>hadm _ e rfl).trans (Below.heap_alloc w2 (.cells #[.int .i64 x.1,.int .i64 x.2] 101) m (by omega)));have hgm:g≠m:=fun e=>by
  obtain⟨es,clock,l,hb',_⟩:=hM3;obtain⟨cur,hb,_⟩:=hp3;rw[e,hb']at hb;cases hb
 have hgw:ad=some ⟨g,0,none⟩∨g=w.heap.size+2:=by
  rcases hg3' with e|e
  ·exact .inl e
  ·right;rw[e];simp[hs2]
 subst hS;refine⟨w2,w3,g,cap',hr2,by simp[World.cell?,hd2],by simp[World.cell?,hn2],by simp[World.cell?,hn2],hs2,hr3,by simp[World.cell?,hd3],by simp[World.frozen?,hd3],⟨?_,.inr ⟨g,rfl,?_⟩,?_,ids_push h.ids x hx,(fun e=>by cases e),fun m' hm'=>?_⟩,?_,?_⟩
 ·simp[World.setCell,Array.getElem?_modify,hd3]
 ·exact hp3.of_block (Below.heap_setCell _ _ _ _ (show g≠Q by omega))
 ·intro a ha;cases ha;exact hg3
 ·cases hm';exact⟨_,hM3.same (Below.heap_setCell _ _ _ _ (show m≠Q by omega)),places_push hP x hx,hQm⟩
 ·refine((((Moved.new w _).drew).trans (Moved.of_turned t2 (.inr (.inr rfl)))).trans ((Moved.new w2 (.cells #[.int .i64 x.1,.int .i64 x.2] 101)).drew)).trans ((mv3.mono fun k hk=>.inr (.inl ⟨_,hk,rfl⟩)).trans (Moved.set _ (.inl rfl) _ _))
 ·rintro k (rfl|⟨a,ha,rfl⟩|hk)
  ·exact .inl (.inl rfl)
  ·cases ha;rcases hgw with e|e
   ·exact .inl (.inr (.inl ⟨_,e,rfl⟩))
   ·right;show w.heap.size≤g;omega
  ·exact .inl (.inr (.inr hk))
set_option maxHeartbeats 1600000 in
theorem rpush_some {m:Nat}(h:IsQ w Q ad n cap (some m) I) (x:Int×Int) (hx:∀i,i<n→(I i).1≠x.1) (hn:n≤1000000) :
  Calls Tryz.prog 226 #[.pointer (some ⟨Q,0,none⟩),.iface 101 (.agg #[.int .i64 x.1,.int .i64 x.2])] w fun e w'=>e = .returned (.tuple #[])∧∃ad' cap' mp',IsQ w' Q ad' (n+1) cap' mp' (setP I n x)∧Went (Foot Q ad (some m)) (Foot Q ad' mp') w w':=by
 have c0:=h.cell0;have c1:=h.cell1;have hQ:=h.lt;have hes:=eql_some;have hta:=assert_item;obtain⟨w2,w3,g,cap',hr2,d0,e0,e1,hs2,hr3,d3,f3,hfin,hwent⟩:=push_facts h x hx hn w.heap.size rfl;go_enter Tryz.func226,Tryz.ntmps226
 go_wp2
 go_region
 go_wp2
 go_region_law (refine step_append rfl (.tmp 31) (.tmp 33) rfl _ _ _ (by simp[Act.eval]) (by simp[Act.eval]) hr3 ?_)
 all_goals
  go_wp2
  go_end0
  exact⟨rfl,_,_,_,hfin,hwent⟩
set_option maxHeartbeats 1600000 in
theorem rpush_none (h:IsQ w Q ad n cap none I) (x:Int×Int) :
  Calls Tryz.prog 226 #[.pointer (some ⟨Q,0,none⟩),.iface 101 (.agg #[.int .i64 x.1,.int .i64 x.2])] w fun e w'=>e = .returned (.tuple #[])∧∃ad' cap' mp',IsQ w' Q ad' (n+1) cap' mp' (setP I n x)∧Went (Foot Q ad none) (Foot Q ad' mp') w w':=by
 obtain rfl:n=0:=h.none_ rfl;have c0:=h.cell0;have c1:=h.cell1;have f1:=h.frozen 1;have hQ:=h.lt;have hen:=eql_none;have hta:=assert_item;have hmm:=@run_makeMap Tryz.prog;have hadn:∀a,ad=some a→a.block≠Q:=fun a ha e=>by have:Q<a.block:=h.apart a ha;omega
 have hsz0:(w.setCell ⟨Q,1,none⟩ (.map (some w.heap.size))).heap.size=w.heap.size:=by simp
 have hal:∀b,b<w.heap.size→((w.setCell ⟨Q,1,none⟩ (.map (some w.heap.size))).alloc (.map #[] 0)).heap[b]? = (w.setCell ⟨Q,1,none⟩ (.map (some w.heap.size))).heap[b]?:=fun b hb=>Below.heap_alloc _ _ _ (by rw[hsz0];exact hb)
 have hfr:=IsMap.fresh (w.setCell ⟨Q,1,none⟩ (.map (some w.heap.size)));rw[hsz0]at hfr
 have h':IsQ ((w.setCell ⟨Q,1,none⟩ (.map (some w.heap.size))).alloc (.map #[] 0)) Q ad 0 cap (some w.heap.size) I:=
  ⟨by rw[hal Q hQ];simp[World.setCell,Array.getElem?_modify,h.head],h.row.kept fun a ha=>(hal _ (h.row.lt a ha)).trans (Below.heap_setCell _ _ _ _ (hadn a ha)),h.apart,h.ids,(fun e=>by cases e),fun m hm=>by
   cases hm;exact⟨fun _=>none,hfr,fun k j=>by simp,hQ⟩⟩
 have hsz:((w.setCell ⟨Q,1,none⟩ (.map (some w.heap.size))).alloc (.map #[] 0)).heap.size=w.heap.size+1:=by simp
 obtain⟨w2,w3,g,cap',hr2,d0,e0,e1,hs2,hr3,d3,f3,hfin,hwent⟩:=push_facts h' x (by omega) (by omega) (w.heap.size+1) hsz;clear hsz hsz0 hal;rw[show ((0:Nat):Int)=0 from rfl]at hr2;have hQ2:Q<w.heap.size+1+1:=by omega
 have hw0:Went (Foot Q ad none) (Foot Q ad (some w.heap.size)) w ((w.setCell ⟨Q,1,none⟩ (.map (some w.heap.size))).alloc (.map #[] 0)):=
  ⟨(Moved.set w (.inl rfl) _ _).trans (Moved.new _ _),by
    rintro k (rfl|⟨a,ha,rfl⟩|hk)
    ·exact .inl (.inl rfl)
    ·exact .inl (.inr (.inl ⟨a,ha,rfl⟩))
    ·cases hk;exact .inr (Nat.le_refl _)⟩
 go_enter Tryz.func226,Tryz.ntmps226
 go_wp2
 go_region
 go_wp2
 go_region_law (refine step_append rfl (.tmp 31) (.tmp 33) rfl _ _ _ (by simp[Act.eval]) (by simp[Act.eval]) hr3 ?_)
 all_goals
  go_wp2
  go_end0
  exact⟨rfl,_,_,_,hfin,hw0.trans hwent⟩
theorem places_pop {n:Nat}{I:Nat→Int×Int}{P:Int→Option Int}(hP:Places (n+1) I P) (hI:Ids (n+1) I):Places n I (at1 P (I n).1 none):=by
 intro k j;unfold at1;by_cases e:k=(I n).1
 ·rw[if_pos e];constructor
  ·intro h;cases h
  ·rintro⟨i,hi,hk,rfl⟩;have:=hI i n (by omega) (by omega) (hk.trans e);omega
 ·rw[if_neg e,hP k j];constructor
  ·rintro⟨i,hi,hk,rfl⟩;by_cases e2:i=n
   ·subst e2;exact absurd hk.symm e
   ·exact⟨i,by omega,hk,rfl⟩
  ·rintro⟨i,hi,hk,rfl⟩;exact⟨i,by omega,hk,rfl⟩
set_option maxHeartbeats 1600000 in
theorem rpop_any (h:IsQ w Q ad (n+1) cap mp I) (hn:n≤1000000) :
  Calls Tryz.prog 225 #[.pointer (some ⟨Q,0,none⟩)] w fun e w'=>e = .returned (.iface 101 (.agg #[.int .i64 (I n).1,.int .i64 (I n).2]))∧IsQ w' Q ad n cap mp I∧Moved (Foot Q ad mp) w w':=by
 have c0:=h.cell0;have c1:=h.cell1;obtain⟨g,rfl,hp⟩:=h.row.form (by omega);have hQg:Q<g:=h.apart _ rfl;obtain⟨m,rfl⟩:∃m,mp=some m:=by
  cases mp with
  | none=>have:=h.none_ rfl;omega
  | some m=>exact⟨m,rfl⟩
 obtain⟨P,hM,hP,hQm⟩:=h.some_ m rfl;have p0:=hp.cell0 (i:=n) (by omega);have p1:=hp.cell1 (i:=n) (by omega);have f0:=h.frozen 0;have hg:=hp.lt;have hQ:=h.lt;have hm:=hM.lt;have hcl:=hp.cap_le;obtain⟨x,hx⟩:∃x,I n=x:=⟨_,rfl⟩
 rw[hx]at p0 p1 ⊢;have hsz0:(w.setCell ⟨Q,0,none⟩ (.slice (some ⟨g,0,none⟩) n cap)).heap.size=w.heap.size:=by simp
 have hal:∀b,b<w.heap.size→((w.setCell ⟨Q,0,none⟩ (.slice (some ⟨g,0,none⟩) n cap)).alloc (.cells #[.int .i64 x.1,.int .i64 x.2] 101)).drew.heap[b]? = (w.setCell ⟨Q,0,none⟩ (.slice (some ⟨g,0,none⟩) n cap)).heap[b]?:=fun b hb=>Below.heap_alloc _ _ _ (by rw[hsz0];exact hb)
 obtain⟨w2,hr2,hM2,t2⟩:=map_del (w:=((w.setCell ⟨Q,0,none⟩ (.slice (some ⟨g,0,none⟩) n cap)).alloc (.cells #[.int .i64 x.1,.int .i64 x.2] 101)).drew) (hM.same ((hal m hm).trans (Below.heap_setCell _ _ _ _ (show m≠Q by omega)))) x.1;have hmg:m≠g:=fun e=>by
  obtain⟨es,clock,l,hb',_⟩:=hM;obtain⟨cur,hb,_⟩:=hp;rw[← e,hb']at hb;cases hb
 have hd2:w2.heap[Q]? = some (.cells #[.slice (some ⟨g,0,none⟩) n cap,.map (some m)] 160 (0,0)):=(t2.block Q (by omega)).trans ((hal Q hQ).trans (by simp[World.setCell,Array.getElem?_modify,h.head]));have hnw:w2.heap[w.heap.size]? = some (.cells #[.int .i64 x.1,.int .i64 x.2] 101 (0,0)):=(t2.block _ (by omega)).trans (by
  have:=(MapKept.heap_alloc (w.setCell ⟨Q,0,none⟩ (.slice (some ⟨g,0,none⟩) n cap)) (.cells #[.int .i64 x.1,.int .i64 x.2] 101)).1;rw[hsz0]at this;exact this)
 have e0:w2.cell? ⟨w.heap.size,0,none⟩=some (.int .i64 x.1):=by simp[World.cell?,hnw]
 have e1:w2.cell? ⟨w.heap.size,1,none⟩=some (.int .i64 x.2):=by simp[World.cell?,hnw]
 have hfin:IsQ w2 Q (some ⟨g,0,none⟩) n cap (some m) I:=
  ⟨hd2,.inr ⟨g,rfl,(hp.of_block ((t2.block g (fun e=>hmg e.symm)).trans ((hal g hg).trans (Below.heap_setCell _ _ _ _ (show g≠Q by omega))))).less (by omega)⟩,h.apart,fun i j hi hj=>h.ids i j (by omega) (by omega),(fun e=>by cases e),fun m' hm'=>by
   cases hm';refine⟨_,hM2,?_,hQm⟩;have:=places_pop hP h.ids;rw[hx]at this;exact this⟩
 have hmv:Moved (Foot Q (some ⟨g,0,none⟩) (some m)) w w2:=(((Moved.set w (.inl rfl) 0 (.slice (some ⟨g,0,none⟩) n cap)).trans (Moved.new _ (.cells #[.int .i64 x.1,.int .i64 x.2] 101))).drew).trans (Moved.of_turned t2 (.inr (.inr rfl)));clear hal hsz0;go_enter Tryz.func225,Tryz.ntmps225
 go_wp2
 go_region
 go_wp2
 go_ret
 exact⟨rfl,hfin,hmv⟩
end
end Go.Proofs.YtnnmdkaoiofabaaGreat.Rk
namespace Go.Proofs.YtnnmdkaoiofabaaGreat.Rk
open Go Go.RowKit
section
variable {w:World}{Q N n cap:Nat}{ad:Option Addr}{mp:Option Nat}{I:Nat→Int×Int}
set_option maxHeartbeats 1600000 in
theorem up_any (h:IsQ w Q ad N cap mp I) (hN:N≤1000000) (hn:n≤N) (j:Nat) (hj:j<n) (hu:UpPre I n j) :
  Calls Tryz.prog 106 #[.iface 163 (.pointer (some ⟨Q,0,none⟩)),.int .i64 (j:Int)] w fun e w'=>e = .returned (.tuple #[])∧∃J,IsQ w' Q ad N cap mp J∧Heap J n∧Same n I J∧(∀k,n≤k→J k=I k)∧Moved (Foot Q ad mp) w w':=by
 go_enter Tryz.func106,Tryz.ntmps106
 go_wp2
 go_loopg [1] j (fun g sv wr=>∃J,g<n∧sv = .int .i64 (g:Int)∧IsQ wr Q ad N cap mp J∧UpPre J n g∧Same n I J∧(∀k,n≤k→J k=I k)∧Moved (Foot Q ad mp) w wr)
 case atStart=>exact⟨I,hj,rfl,h,hu,Same.refl n I,fun _ _=>rfl,Moved.refl _ _⟩
 case round =>
  obtain⟨J,hg,rfl,hq,hu',hs,ho,hm⟩:=hrel;by_cases h0:gk=0
  ·subst h0
   go_wp2
   go_end0
   exact⟨rfl,J,hq,hu'.stop0,hs,ho,hm⟩
  ·have hp1:((gk:Int)-1) / 2=(par gk:Int):=by unfold par;omega
   have hp2:¬(par gk:Int)=(gk:Int):=by unfold par;omega
   have hp3:par gk<n:=by unfold par;omega
   have hp4:par gk≠gk:=by unfold par;omega
   have K1:=less_any hq gk (par gk) (by omega) (by omega);cases hb:bet (J gk) (J (par gk)) with
   | false =>
    rw[hb]at K1
    go_wp2_with (first
     | (go_at_call 224;refine K1.mono ?_;clear K1;rintro e w1 ⟨rfl,b1⟩))
    go_end0
    exact⟨rfl,J,hq.below b1,hu'.stop hb,hs,ho,hm.trans (Moved.of_below b1)⟩
   | true =>
    rw[hb]at K1
    go_wp2_with (first
     | (go_at_call 224;refine K1.mono ?_;clear K1;rintro e w1 ⟨rfl,b1⟩;have K2:=swap_any (hq.below b1) (par gk) gk (by omega) (by omega) hp4)
     | (go_at_call 227;refine K2.mono ?_;clear K2;rintro e w2 ⟨rfl,q2,m2⟩))
    go_roundg (par gk)
    case measure=>unfold par;omega
    case rel =>
     exact⟨_,hp3,rfl,q2,hu'.step (by omega) hg hb,hs.trans (Same.swapped hp3 hg),fun k hk=>by rw[swp_o J (by omega) (by omega)];exact ho k hk,(hm.trans (Moved.of_below b1)).trans m2⟩
theorem kids {s i:Nat}(h0:0<s) (h:par s=i):s=2*i+1∨s=2*i+2:=by unfold par at h;omega
set_option maxHeartbeats 4000000 in
theorem down_any (h:IsQ w Q ad N cap mp I) (hN:N≤1000000) (hn:n≤N) (i0:Nat) (hi0:i0<n) (hd:DnPre I n i0) :
  Calls Tryz.prog 126 #[.iface 163 (.pointer (some ⟨Q,0,none⟩)),.int .i64 (i0:Int),.int .i64 (n:Int)] w fun e w'=>∃(b:Bool) (J:Nat→Int×Int),e = .returned (.bool b)∧IsQ w' Q ad N cap mp J∧(b=true→Heap J n)∧(b=false→UpPre J n i0)∧Same n I J∧(∀k,n≤k→J k=I k)∧Moved (Foot Q ad mp) w w':=by
 go_enter Tryz.func126,Tryz.ntmps126
 go_wp2
 go_loopg [7] (n-i0) (fun g sv wr=>∃(i:Nat) (J:Nat→Int×Int),i+g=n∧i0≤i∧i<n∧sv = .int .i64 (i:Int)∧IsQ wr Q ad N cap mp J∧DnPre J n i∧(i0<i→bet (J i) (J (par i))=false)∧Same n I J∧(∀k,n≤k→J k=I k)∧Moved (Foot Q ad mp) w wr)
 case atStart=>exact⟨i0,I,by omega,Nat.le_refl _,hi0,rfl,h,hd,fun e=>absurd e (Nat.lt_irrefl _),Same.refl n I,fun _ _=>rfl,Moved.refl _ _⟩
 case round =>
  obtain⟨i,J,hg,hii,hin,rfl,hq,hd',hok,hs,ho,hm⟩:=hrel;have hgA:Aside (i+gk=n):=hg;clear hg;obtain⟨a,ha⟩:∃a:Nat,2*(i:Int)+1=(a:Int):=⟨2*i+1,by omega⟩
  have haN:Aside (a=2*i+1):=(by omega:a=2*i+1)
  have fin:∀w',IsQ w' Q ad N cap mp J→Moved (Foot Q ad mp) w w'→(∀s,0<s→s<n→par s=i→bet (J s) (J i)=false)→∃(b:Bool) (J:Nat→Int×Int),Ending.returned (.bool (decide (i0<i))) = .returned (.bool b)∧IsQ w' Q ad N cap mp J∧(b=true→Heap J n)∧(b=false→UpPre J n i0)∧Same n I J∧(∀k,n≤k→J k=I k)∧Moved (Foot Q ad mp) w w':=by
   intro w' hq' hm' hk;refine⟨_,J,rfl,hq',fun e=>?_,fun e=>?_,hs,ho,hm'⟩
   ·have e':i0<i:=by simpa using e
    exact(hd'.stop hk).stop (hok e')
   ·have e':¬i0<i:=by simpa using e
    have:i0=i:=by omega
    rw[this];exact hd'.stop hk
  by_cases c1:a<n
  ·have hc1:¬(n:Int)≤(a:Int):=by omega
   obtain⟨b,hb⟩:∃b:Nat,(a:Int)+1=(b:Int):=⟨a+1,by omega⟩
   have hbN:Aside (b=2*i+2):=(by have:=haN.out;omega:b=2*i+2)
   by_cases c2:b<n
   ·have hc2:(b:Int)<(n:Int):=by omega
    have K1:=less_any hq b a (by omega) (by omega);cases hb1:bet (J b) (J a) with
    | false =>
     rw[hb1]at K1;have hic:i≠a:=by have:=haN.out;omega
     have hka:∀s,0<s→s<n→par s=i→bet (J s) (J a)=false:=fun s h0 hsn hp=>by
      have h1:=haN.out;have h2:=hbN.out;rcases kids h0 hp with e|e
      ·rw[e,← h1];exact bet_self _
      ·rw[e,← h2];exact hb1
     cases hb2:bet (J a) (J i) with
     | false =>
      go_wp2_with (first
       | (go_at_call 224;refine K1.mono ?_;clear K1;rintro e w1 ⟨rfl,b1⟩;have K2:=less_any (hq.below b1) a i (by omega) (by omega);rw[hb2]at K2)
       | (go_at_call 224;refine K2.mono ?_;clear K2;rintro e w2 ⟨rfl,b2⟩))
      go_ret
      exact fin w2 ((hq.below b1).below b2) ((hm.trans (Moved.of_below b1)).trans (Moved.of_below b2)) fun s h0 hsn hp=>bet_le_trans (hka s h0 hsn hp) hb2
     | true =>
      go_wp2_with (first
       | (go_at_call 224;refine K1.mono ?_;clear K1;rintro e w1 ⟨rfl,b1⟩;have K2:=less_any (hq.below b1) a i (by omega) (by omega);rw[hb2]at K2)
       | (go_at_call 224;refine K2.mono ?_;clear K2;rintro e w2 ⟨rfl,b2⟩;have K3:=swap_any ((hq.below b1).below b2) i a (by omega) (by omega) hic)
       | (go_at_call 227;refine K3.mono ?_;clear K3;rintro e w3 ⟨rfl,q3,m3⟩))
      go_roundg (n-a)
      case measure=>have:=hgA.out;have:=haN.out;have:=hbN.out;omega
      case rel =>
       have st:=hd'.step (j:=a) (by have:=haN.out;have:=hbN.out;omega) (by omega) hb2 hka;exact⟨a,_,by omega,by have:=haN.out;have:=hbN.out;omega,by omega,rfl,q3,st.1,fun _=>st.2,hs.trans (Same.swapped (by omega) (by omega)),fun k hk=>by rw[swp_o J (by omega) (by omega)];exact ho k hk,((hm.trans (Moved.of_below b1)).trans (Moved.of_below b2)).trans m3⟩
    | true =>
     rw[hb1]at K1;have hic:i≠b:=by have:=hbN.out;omega
     have hkb:∀s,0<s→s<n→par s=i→bet (J s) (J b)=false:=fun s h0 hsn hp=>by
      have h1:=haN.out;have h2:=hbN.out;rcases kids h0 hp with e|e
      ·rw[e,← h1];exact bet_asymm hb1
      ·rw[e,← h2];exact bet_self _
     cases hb2:bet (J b) (J i) with
     | false =>
      go_wp2_with (first
       | (go_at_call 224;refine K1.mono ?_;clear K1;rintro e w1 ⟨rfl,b1⟩;have K2:=less_any (hq.below b1) b i (by omega) (by omega);rw[hb2]at K2)
       | (go_at_call 224;refine K2.mono ?_;clear K2;rintro e w2 ⟨rfl,b2⟩))
      go_ret
      exact fin w2 ((hq.below b1).below b2) ((hm.trans (Moved.of_below b1)).trans (Moved.of_below b2)) fun s h0 hsn hp=>bet_le_trans (hkb s h0 hsn hp) hb2
     | true =>
      go_wp2_with (first
       | (go_at_call 224;refine K1.mono ?_;clear K1;rintro e w1 ⟨rfl,b1⟩;have K2:=less_any (hq.below b1) b i (by omega) (by omega);rw[hb2]at K2)
       | (go_at_call 224;refine K2.mono ?_;clear K2;rintro e w2 ⟨rfl,b2⟩;have K3:=swap_any ((hq.below b1).below b2) i b (by omega) (by omega) hic)
       | (go_at_call 227;refine K3.mono ?_;clear K3;rintro e w3 ⟨rfl,q3,m3⟩))
      go_roundg (n-b)
      case measure=>have:=hgA.out;have:=haN.out;have:=hbN.out;omega
      case rel =>
       have st:=hd'.step (j:=b) (by have:=haN.out;have:=hbN.out;omega) (by omega) hb2 hkb;exact⟨b,_,by omega,by have:=haN.out;have:=hbN.out;omega,by omega,rfl,q3,st.1,fun _=>st.2,hs.trans (Same.swapped (by omega) (by omega)),fun k hk=>by rw[swp_o J (by omega) (by omega)];exact ho k hk,((hm.trans (Moved.of_below b1)).trans (Moved.of_below b2)).trans m3⟩
   ·have hc2:¬(b:Int)<(n:Int):=by omega
    have hic:i≠a:=by have:=haN.out;omega
    have hka:∀s,0<s→s<n→par s=i→bet (J s) (J a)=false:=fun s h0 hsn hp=>by
     have h1:=haN.out;have h2:=hbN.out;rcases kids h0 hp with e|e
     ·rw[e,← h1];exact bet_self _
     ·omega
    have K2:=less_any hq a i (by omega) (by omega);cases hb2:bet (J a) (J i) with
    | false =>
     rw[hb2]at K2
     go_wp2_with (first
      | (go_at_call 224;refine K2.mono ?_;clear K2;rintro e w2 ⟨rfl,b2⟩))
     go_ret
     exact fin w2 (hq.below b2) (hm.trans (Moved.of_below b2)) fun s h0 hsn hp=>bet_le_trans (hka s h0 hsn hp) hb2
    | true =>
     rw[hb2]at K2
     go_wp2_with (first
      | (go_at_call 224;refine K2.mono ?_;clear K2;rintro e w2 ⟨rfl,b2⟩;have K3:=swap_any (hq.below b2) i a (by omega) (by omega) hic)
      | (go_at_call 227;refine K3.mono ?_;clear K3;rintro e w3 ⟨rfl,q3,m3⟩))
     go_roundg (n-a)
     case measure=>have:=hgA.out;have:=haN.out;have:=hbN.out;omega
     case rel =>
      have st:=hd'.step (j:=a) (by have:=haN.out;have:=hbN.out;omega) (by omega) hb2 hka;exact⟨a,_,by omega,by have:=haN.out;have:=hbN.out;omega,by omega,rfl,q3,st.1,fun _=>st.2,hs.trans (Same.swapped (by omega) (by omega)),fun k hk=>by rw[swp_o J (by omega) (by omega)];exact ho k hk,(hm.trans (Moved.of_below b2)).trans m3⟩
  ·have hc1:(n:Int)≤(a:Int):=by omega
   go_wp2
   go_ret
   exact fin wr hq hm fun s h0 hsn hp=>by have:=kids h0 hp;have:=haN.out;omega
end
end Go.Proofs.YtnnmdkaoiofabaaGreat.Rk
namespace Go.Proofs.YtnnmdkaoiofabaaGreat.Rk
open Go Go.RowKit
section
variable {w:World}{Q n cap:Nat}{ad:Option Addr}{mp:Option Nat}{I:Nat→Int×Int}
theorem rpush_any (h:IsQ w Q ad n cap mp I) (x:Int×Int) (hx:∀i,i<n→(I i).1≠x.1) (hn:n≤1000000) :
  Calls Tryz.prog 226 #[.pointer (some ⟨Q,0,none⟩),.iface 101 (.agg #[.int .i64 x.1,.int .i64 x.2])] w fun e w'=>e = .returned (.tuple #[])∧∃ad' cap' mp',IsQ w' Q ad' (n+1) cap' mp' (setP I n x)∧Went (Foot Q ad mp) (Foot Q ad' mp') w w':=by
 cases mp with
 | none=>exact rpush_none h x
 | some m=>exact rpush_some h x hx hn
theorem hpush_any (h:IsQ w Q ad n cap mp I) (hh:Heap I n) (x:Int×Int) (hx:∀i,i<n→(I i).1≠x.1) (hn:n≤900000) :
  Calls Tryz.prog 84 #[.iface 163 (.pointer (some ⟨Q,0,none⟩)),.iface 101 (.agg #[.int .i64 x.1,.int .i64 x.2])] w fun e w'=>e = .returned (.tuple #[])∧∃ad' cap' mp' J,IsQ w' Q ad' (n+1) cap' mp' J∧Heap J (n+1)∧Same (n+1) (setP I n x) J∧Went (Foot Q ad mp) (Foot Q ad' mp') w w':=by
 have K1:=rpush_any h x hx (by omega);have hu:UpPre (setP I n x) (n+1) n:=hh.push fun k hk=>setP_other I x (by omega)
 go_enter Tryz.func84,Tryz.ntmps84
 go_wp2_with (first
  | (go_at_call 226;refine K1.mono ?_;clear K1;rintro e w1 ⟨rfl,ad',cap',mp',q1,g1⟩;have K2:=rlen_any q1;have K3:=up_any q1 (by omega) (Nat.le_refl _) n (by omega) hu)
  | (go_at_call 107;refine K2.mono ?_;clear K2;rintro e w2 ⟨rfl,rfl⟩)
  | (go_at_call 106;refine K3.mono ?_;clear K3;rintro e w3 ⟨rfl,J,q3,h3,s3,o3,m3⟩))
 go_end0
 exact⟨rfl,ad',cap',mp',J,q3,h3,s3,g1.trans (Went.same m3)⟩
set_option maxHeartbeats 1600000 in
theorem remove_any (h:IsQ w Q ad (n+1) cap mp I) (hh:Heap I (n+1)) (hn:n≤900000) (i:Nat) (hi:i<n+1) :
  Calls Tryz.prog 108 #[.iface 163 (.pointer (some ⟨Q,0,none⟩)),.int .i64 (i:Int)] w fun e w'=>e = .returned (.iface 101 (.agg #[.int .i64 (I i).1,.int .i64 (I i).2]))∧∃J,IsQ w' Q ad n cap mp J∧Heap J n∧(∀x,(∃k,k<n∧J k=x)↔(∃k,k<n+1∧k≠i∧I k=x))∧Moved (Foot Q ad mp) w w':=by
 have K1:=rlen_any h;by_cases hin:i=n
 ·subst hin;have K2:=rpop_any h (by omega);go_enter Tryz.func108,Tryz.ntmps108
  go_wp2_with (first
   | (go_at_call 107;refine K1.mono ?_;clear K1;rintro e w2 ⟨rfl,rfl⟩)
   | (go_at_call 225;refine K2.mono ?_;clear K2;rintro e w3 ⟨rfl,q3,m3⟩))
  go_ret
  refine⟨rfl,I,q3,hh.less (by omega),fun x=>⟨?_,?_⟩,m3⟩
  ·rintro⟨k,hk,e⟩;exact⟨k,by omega,by omega,e⟩
  ·rintro⟨k,hk,hne,e⟩;exact⟨k,by omega,e⟩
 ·have hin':¬(n:Int)=(i:Int):=by omega
  have K2:=swap_any h i n (by omega) (by omega) hin;have hd:DnPre (swp I i n) n i:=(hh.less (m:=n) (by omega)).dn _ (fun k hk hne=>swp_o I hne (by omega)) (by omega);have hfin:∀J:Nat→Int×Int,Same n (swp I i n) J→∀x,(∃k,k<n∧J k=x)↔(∃k,k<n+1∧k≠i∧I k=x):=by
   intro J hJ x;rw[hJ x];constructor
   ·rintro⟨k,hk,e⟩;by_cases e2:k=i
    ·rw[e2,swp_l]at e;exact⟨n,by omega,by omega,e⟩
    ·rw[swp_o I e2 (by omega)]at e;exact⟨k,by omega,e2,e⟩
   ·rintro⟨k,hk,hne,e⟩;by_cases e2:k=n
    ·exact⟨i,by omega,by rw[swp_l,← e2];exact e⟩
    ·exact⟨k,by omega,by rw[swp_o I hne e2];exact e⟩
  have hr:∀J:Nat→Int×Int,(∀k,n≤k→J k=swp I i n k)→J n=I i:=fun J hJ=>by rw[hJ n (Nat.le_refl _),swp_r]
  go_enter Tryz.func108,Tryz.ntmps108
  go_wp2_with (first
   | (go_at_call 107;refine K1.mono ?_;clear K1;rintro e w2 ⟨rfl,rfl⟩)
   | (go_at_call 227;refine K2.mono ?_;clear K2;rintro e w3 ⟨rfl,q3,m3⟩;have K3:=down_any q3 (by omega) (Nat.le_succ n) i (by omega) hd)
   | (go_at_call 126;refine K3.mono ?_;clear K3;rintro e w4 ⟨b,J,rfl,q4,hb1,hb2,s4,o4,m4⟩;have K4:=rpop_any q4 (by omega))
   | (go_at_call 106;clear K4;refine(up_any q4 (by omega) (Nat.le_succ n) i (by omega) (hb2 (by have:=‹(!b)=true›;simpa using this))).mono ?_;rintro e w5 ⟨rfl,J2,q5,h5,s5,o5,m5⟩;have K5:=rpop_any q5 (by omega))
   | (go_at_call 225;refine K5.mono ?_;clear K5;rintro e w6 ⟨rfl,q6,m6⟩)
   | (go_at_call 225;refine K4.mono ?_;clear K4;rintro e w6 ⟨rfl,q6,m6⟩))
  ·go_ret
   exact⟨rfl,J2,q6,h5,hfin J2 (s4.trans s5),(((m3.trans m4).trans m5).trans m6)⟩
  ·go_ret
   exact⟨rfl,J,q6,hb1 (by have:=‹(!b)=false›;simpa using this),hfin J s4,((m3.trans m4).trans m6)⟩
end
end Go.Proofs.YtnnmdkaoiofabaaGreat.Rk
namespace Go.Proofs.YtnnmdkaoiofabaaGreat.Rk
open Go Go.RowKit
theorem box_kept {S:Nat→Prop}{w w2:World}(h:Moved S (w.alloc (.cells #[.int .i64 0,.int .i64 0] 101)) w2) (hS:¬S w.heap.size) :
  w2.cell? ⟨w.heap.size,0,none⟩=some (.int .i64 0)∧w2.cell? ⟨w.heap.size,1,none⟩=some (.int .i64 0)∧w2.frozen? ⟨w.heap.size,0,none⟩=false∧w2.frozen? ⟨w.heap.size,1,none⟩=false∧w.heap.size<w2.heap.size:=by
 have hlt:w.heap.size<(w.alloc (.cells #[.int .i64 0,.int .i64 0] 101)).heap.size:=by simp
 have hb:=(MapKept.heap_alloc w (.cells #[.int .i64 0,.int .i64 0] 101)).1;have hb2:=(h.block _ hlt hS).trans hb;exact⟨by simp[World.cell?,hb2],by simp[World.cell?,hb2],by simp[World.frozen?,hb2],by simp[World.frozen?,hb2],Nat.lt_of_lt_of_le hlt h.size⟩
theorem box_moved {S:Nat→Prop}{w w2:World}(h:Moved S (w.alloc (.cells #[.int .i64 0,.int .i64 0] 101)) w2) (x y:Value) :
  Moved S w ((w2.setCell ⟨w.heap.size,0,none⟩ x).setCell ⟨w.heap.size,1,none⟩ y):=
 ⟨h.os,h.tape,h.output,Nat.le_trans (by simp) (Nat.le_trans h.size (by simp)),fun k hk hS=>by
  rw[Below.heap_setCell _ _ _ _ (show k≠w.heap.size by omega),Below.heap_setCell _ _ _ _ (show k≠w.heap.size by omega),h.block k (by simp;omega) hS];exact Below.heap_alloc _ _ _ hk⟩
section
variable {w:World}{Q n cap:Nat}{ad:Option Addr}{mp:Option Nat}{I:Nat→Int×Int}
theorem IsQ.far (h:IsQ w Q ad n cap mp I){k:Nat}(hk:w.heap.size≤k):¬Foot Q ad mp k:=fun f=>by have:=h.foot_lt f;omega
theorem IsQ.box {w2:World}(h:IsQ w2 Q ad n cap mp I){k:Nat}(hk:¬Foot Q ad mp k) (x y:Value):IsQ ((w2.setCell ⟨k,0,none⟩ x).setCell ⟨k,1,none⟩ y) Q ad n cap mp I:=
 h.kept fun b hb=>by rw[Below.heap_setCell _ _ _ _ (show b≠k from fun e=>hk (e ▸ hb)),Below.heap_setCell _ _ _ _ (show b≠k from fun e=>hk (e ▸ hb))]
theorem take_any (h:IsQ w Q ad (n+1) cap mp I) (hh:Heap I (n+1)) (hn:n≤900000) (i:Nat) (hi:i<n+1) :
  Calls Tryz.prog 86 #[.pointer (some ⟨Q,0,none⟩),.int .i64 (i:Int)] w fun e w'=>e = .returned (.agg #[.int .i64 (I i).1,.int .i64 (I i).2])∧∃J,IsQ w' Q ad n cap mp J∧Heap J n∧(∀x,(∃k,k<n∧J k=x)↔(∃k,k<n+1∧k≠i∧I k=x))∧Moved (Foot Q ad mp) w w':=by
 have hta:=assert_item;have hfar:=h.far (Nat.le_refl w.heap.size);have K1:=remove_any (h.new (.cells #[.int .i64 0,.int .i64 0] 101)) hh hn i hi;go_enter Tryz.func86,Tryz.ntmps86
 go_wp2_with (first
  | (go_at_call 108;refine K1.mono ?_;clear K1;rintro e w2 ⟨rfl,J,q2,h2,s2,m2⟩;obtain⟨b0,b1,b2,b3,b4⟩:=box_kept m2 hfar))
 exact bodyPost_ret (v:=.agg #[.int .i64 (I i).1,.int .i64 (I i).2]) (by simp[results,Tryz.results86,go_sem,b0,b1]) rfl ⟨rfl,J,q2.box hfar _ _,h2,s2,box_moved m2 _ _⟩
theorem seek_out (h:IsQ w Q ad n cap mp I) (id:Int) (hid:∀i,i<n→(I i).1≠id):(Instr.lookup 156 (.map mp) (.int .i64 id) true).run Tryz.prog w = .ok (.tuple #[.int .i64 0,.bool false]) w:=by
 cases mp with
 | none=>exact map_look_nil w id
 | some m =>
  obtain⟨P,hM,hP,_⟩:=h.some_ m rfl
  have:P id=none:=by
   cases e:P id with
   | none=>rfl
   | some j =>
    obtain⟨i,hi,hk,_⟩:=(hP _ _).1 e;exact absurd hk (hid i hi)
  rw[map_look hM,this];rfl
abbrev stepV (f:Nat) (Q:Nat):Value:=.func (.func f) #[.pointer (some ⟨Q,0,none⟩)] #[]
abbrev itemV (x:Int×Int):Value:=.agg #[.int .i64 x.1,.int .i64 x.2]
theorem first_out (h:IsQ w Q ad 0 cap mp I) (f:Value) :
  Calls Tryz.prog 85 #[.pointer (some ⟨Q,0,none⟩),f] w fun e w'=>e = .returned (.tuple #[itemV (0,0),.bool false])∧Below w.heap.size w w':=by
 have K1:=rlen_any (h.new (.cells #[.int .i64 0,.int .i64 0] 101));go_enter Tryz.func85,Tryz.ntmps85
 go_wp2_with (first
  | (go_at_call 107;refine K1.mono ?_;clear K1;rintro e w2 ⟨rfl,rfl⟩))
 exact bodyPost_ret (v:=.tuple #[.agg #[.int .i64 0,.int .i64 0],.bool false]) (by simp[results,Tryz.results85,go_sem]) rfl ⟨rfl,(Below.refl _ _).alloc (Nat.le_refl _) _⟩
theorem first_take (h:IsQ w Q ad (n+1) cap mp I) (hh:Heap I (n+1)) (hn:n≤900000) :
  Calls Tryz.prog 85 #[.pointer (some ⟨Q,0,none⟩),stepV 86 Q] w fun e w'=>e = .returned (.tuple #[itemV (I 0),.bool true])∧∃J,IsQ w' Q ad n cap mp J∧Heap J n∧(∀x,(∃k,k<n∧J k=x)↔(∃k,k<n+1∧k≠0∧I k=x))∧Moved (Foot Q ad mp) w w':=by
 have hfar:=h.far (Nat.le_refl w.heap.size);have K0:=rlen_any (h.new (.cells #[.int .i64 0,.int .i64 0] 101));have K1:=take_any (h.new (.cells #[.int .i64 0,.int .i64 0] 101)) hh hn 0 (by omega);have hz:¬((n+1:Nat):Int)=0:=by omega
 go_enter Tryz.func85,Tryz.ntmps85
 go_wp2_with (first
  | (go_at_call 107;refine K0.mono ?_;clear K0;rintro e w2 ⟨rfl,rfl⟩)
  | (go_at_call 86;refine K1.mono ?_;clear K1;rintro e w2 ⟨rfl,J,q2,h2,s2,m2⟩;obtain⟨b0,b1,b2,b3,b4⟩:=box_kept m2 hfar))
 exact bodyPost_ret (v:=.tuple #[itemV (I 0),.bool true]) (by simp[results,Tryz.results85,go_sem,b0,b1]) rfl ⟨rfl,J,q2.box hfar _ _,h2,s2,box_moved m2 _ _⟩
end
end Go.Proofs.YtnnmdkaoiofabaaGreat.Rk
namespace Go.Proofs.YtnnmdkaoiofabaaGreat.Rk
open Go Go.RowKit
def Has (w:World) (Q:Nat) (S:Nat→Prop) (K:Int→Option Int) (n:Nat):Prop:=
 ∃(ad:Option Addr) (cap:Nat) (mp:Option Nat) (I:Nat→Int×Int),S=Foot Q ad mp∧IsQ w Q ad n cap mp I∧Heap I n∧Tells n I K
section
variable {w w':World}{Q n:Nat}{S:Nat→Prop}{K:Int→Option Int}
theorem Has.lt (h:Has w Q S K n):∀k,S k→k<w.heap.size:=by
 obtain⟨ad,cap,mp,I,rfl,hq,_⟩:=h;exact fun k hk=>hq.foot_lt hk
theorem Has.kept (h:Has w Q S K n) (k:∀b,S b→w'.heap[b]? = w.heap[b]?):Has w' Q S K n:=by
 obtain⟨ad,cap,mp,I,rfl,hq,hh,ht⟩:=h;exact⟨ad,cap,mp,I,rfl,hq.kept k,hh,ht⟩
theorem Has.below (h:Has w Q S K n) (k:Below w.heap.size w w'):Has w' Q S K n:=h.kept fun b hb=>k.block _ (h.lt b hb)
theorem Has.new (h:Has w Q S K n) (o:Obj):Has (w.alloc o) Q S K n:=h.kept fun b hb=>Below.heap_alloc _ _ _ (h.lt b hb)
theorem Has.box (h:Has w Q S K n){k:Nat}(hk:¬S k) (x y:Value):Has ((w.setCell ⟨k,0,none⟩ x).setCell ⟨k,1,none⟩ y) Q S K n:=
 h.kept fun b hb=>by rw[Below.heap_setCell _ _ _ _ (show b≠k from fun e=>hk (e ▸ hb)),Below.heap_setCell _ _ _ _ (show b≠k from fun e=>hk (e ▸ hb))]
theorem tells_none {I:Nat→Int×Int}(ht:Tells n I K){id:Int}(e:K id=none):∀i,i<n→(I i).1≠id:=fun i hi h=>by
 have:=(ht id (I i).2).2 ⟨i,hi,by rw[← h]⟩;rw[e]at this;cases this
theorem tells_push {I J:Nat→Int×Int}(ht:Tells n I K){id key:Int}(e:K id=none) (hs:Same (n+1) (setP I n (id,key)) J):Tells (n+1) J (at1 K id (some key)):=by
 intro a b
 have:(∃i,i<n+1∧J i=(a,b))↔_:=hs (a,b);rw[this];unfold at1;by_cases c:a=id
 ·subst c;rw[if_pos rfl,Option.some.injEq];constructor
  ·rintro rfl;exact⟨n,by omega,setP_same _ _ _⟩
  ·rintro⟨i,hi,he⟩;by_cases c2:i=n
   ·rw[c2,setP_same]at he;exact(Prod.mk.inj he).2
   ·rw[setP_other _ _ c2]at he;exact absurd (by rw[he]) (tells_none ht e i (by omega))
 ·rw[if_neg c,ht a b];constructor
  ·rintro⟨i,hi,he⟩;exact⟨i,by omega,by rw[setP_other _ _ (by omega)];exact he⟩
  ·rintro⟨i,hi,he⟩;by_cases c2:i=n
   ·rw[c2,setP_same]at he;exact absurd (Prod.mk.inj he).1.symm c
   ·rw[setP_other _ _ c2]at he;exact⟨i,by omega,he⟩
theorem tells_drop {I J:Nat→Int×Int}(ht:Tells (n+1) I K) (hi:Ids (n+1) I){i:Nat}(hin:i<n+1) (hs:∀x,(∃k,k<n∧J k=x)↔(∃k,k<n+1∧k≠i∧I k=x)):Tells n J (at1 K (I i).1 none):=by
 intro a b;rw[hs (a,b)];unfold at1;by_cases c:a=(I i).1
 ·rw[if_pos c];constructor
  ·intro e;cases e
  ·rintro⟨k,hk,hne,he⟩;exact absurd (hi k i hk hin (by rw[he];exact c)) hne
 ·rw[if_neg c,ht a b];constructor
  ·rintro⟨k,hk,he⟩;exact⟨k,hk,fun e=>c (by rw[← e,he]),he⟩
  ·rintro⟨k,hk,_,he⟩;exact⟨k,hk,he⟩
theorem tells_top {I:Nat→Int×Int}(ht:Tells (n+1) I K) (hh:Heap I (n+1)):K (I 0).1=some (I 0).2∧∀id key,K id=some key→bet (id,key) (I 0)=false:=
 ⟨(ht _ _).2 ⟨0,by omega,rfl⟩,fun id key e=>by
   obtain⟨i,hi,he⟩:=(ht id key).1 e;rw[← he];exact hh.top i hi⟩
theorem new_any (w:World):Calls Tryz.prog 46 #[] w fun e w'=>e = .returned (.pointer (some ⟨w.heap.size,0,none⟩))∧∃S,Has w' w.heap.size S (fun _=>none) 0∧(∀k,S k→w.heap.size≤k)∧Below w.heap.size w w':=by
 go_enter Tryz.func46,Tryz.ntmps46
 go_wp2
 go_ret
 refine⟨rfl,Foot w.heap.size none none,⟨none,0,none,fun _=>(0,0),rfl,⟨(MapKept.heap_alloc w _).1,OwnP.nil _ _,(fun a ha=>by cases ha),(fun i j hi=>by omega),fun _=>rfl,fun m hm=>by cases hm⟩,(fun k _ hk=>by omega),fun id key=>by simp⟩,?_,(Below.refl _ _).alloc (Nat.le_refl _) _⟩;rintro k (rfl|⟨a,ha,_⟩|hk)
 ·exact Nat.le_refl _
 ·cases ha
 ·cases hk
theorem push_yes (h:Has w Q S K n) (hn:n≤900000){id:Int}(e:K id=none) (key:Int):Calls Tryz.prog 47 #[.pointer (some ⟨Q,0,none⟩),.int .i64 id,.int .i64 key] w fun e w'=>e = .returned (.bool true)∧∃S',Has w' Q S' (at1 K id (some key)) (n+1)∧Went S S' w w':=by
 obtain⟨ad,cap,mp,I,rfl,hq,hh,ht⟩:=h;have hE:Aside (K id=none):=e;have L:=seek_out hq id (tells_none ht e);have K1:=hpush_any hq hh (id,key) (tells_none ht e) hn;have c1:=hq.cell1;clear e;go_enter Tryz.func47,Tryz.ntmps47
 go_wp2_with (first
  | (go_at_call 84;refine K1.mono ?_;clear K1;rintro e w2 ⟨rfl,ad',cap',mp',J,q2,h2,s2,g2⟩))
 go_ret
 exact⟨rfl,Foot Q ad' mp',⟨ad',cap',mp',J,rfl,q2,h2,tells_push ht hE.out s2⟩,g2⟩
theorem pop_none (h:Has w Q S K 0):Calls Tryz.prog 49 #[.pointer (some ⟨Q,0,none⟩)] w fun e w'=>e = .returned (.tuple #[itemV (0,0),.bool false])∧Below w.heap.size w w':=by
 obtain⟨ad,cap,mp,I,rfl,hq,hh,ht⟩:=h;have hmf:∀(fn:Fn) (first cap:Array Value) (w:World),(Instr.makeFunc fn first cap).run Tryz.prog w = .ok (.func fn first cap) w:=fun _ _ _ _=>rfl
 have K1:=first_out (hq.new (.cells #[.int .i64 0,.int .i64 0] 101)) (stepV 86 Q);go_enter Tryz.func49,Tryz.ntmps49
 go_wp2_with (first
  | (go_at_call 85;refine K1.mono ?_;clear K1;rintro e w2 ⟨rfl,k2⟩;have m2:=Moved.of_below (S:=fun _=>False) k2;obtain⟨b0,b1,b2,b3,b4⟩:=box_kept m2 id))
 exact bodyPost_ret (v:=.tuple #[itemV (0,0),.bool false]) (by simp[results,Tryz.results49,go_sem,b0,b1]) rfl ⟨rfl,(box_moved m2 _ _).below (Nat.le_refl _) fun i hi=>hi.elim⟩
theorem pop_some (h:Has w Q S K (n+1)) (hn:n≤900000):Calls Tryz.prog 49 #[.pointer (some ⟨Q,0,none⟩)] w fun e w'=>∃x:Int×Int,e = .returned (.tuple #[itemV x,.bool true])∧(K x.1=some x.2∧∀id key,K id=some key→bet (id,key) x=false)∧Has w' Q S (at1 K x.1 none) n∧Moved S w w':=by
 obtain⟨ad,cap,mp,I,rfl,hq,hh,ht⟩:=h;have hmf:∀(fn:Fn) (first cap:Array Value) (w:World),(Instr.makeFunc fn first cap).run Tryz.prog w = .ok (.func fn first cap) w:=fun _ _ _ _=>rfl
 have hfar:=hq.far (Nat.le_refl w.heap.size);have K1:=first_take (hq.new (.cells #[.int .i64 0,.int .i64 0] 101)) hh hn;go_enter Tryz.func49,Tryz.ntmps49
 go_wp2_with (first
  | (go_at_call 85;refine K1.mono ?_;clear K1;rintro e w2 ⟨rfl,J,q2,h2,s2,m2⟩;obtain⟨b0,b1,b2,b3,b4⟩:=box_kept m2 hfar))
 exact bodyPost_ret (v:=.tuple #[itemV (I 0),.bool true]) (by simp[results,Tryz.results49,go_sem,b0,b1]) rfl ⟨I 0,rfl,tells_top ht hh,⟨ad,cap,mp,J,rfl,q2.box hfar _ _,h2,tells_drop ht hq.ids (by omega) s2⟩,box_moved m2 _ _⟩
end
end Go.Proofs.YtnnmdkaoiofabaaGreat.Rk
