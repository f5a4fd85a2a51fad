/-
  The plan under way: the half of a node of the upper level.
-/
import Derived.Test.YtnnmdkaoiofabaaGreatSwX
import Derived.Test.YtnnmdkaoiofabaaGreatBaseG
namespace Go.Proofs.YtnnmdkaoiofabaaGreat.Sw
open Go Go.RowKit
def Qt (w u:World):Prop:=∃q,u=w.drewN q
theorem Qt.drew (w:World):Qt w w.drew:=⟨1,rfl⟩
theorem drewN_add (w:World) (a b:Nat):(w.drewN a).drewN b=w.drewN (a+b):=by
 induction b with
 | zero=>rfl
 | succ b ih=>show ((w.drewN a).drewN b).drew=(w.drewN (a+b)).drew;rw[ih]
theorem Qt.trans {a b c:World}(h:Qt a b) (k:∃q,c=b.drewN q):Qt a c:=by
 obtain⟨p,rfl⟩:=h;obtain⟨q,rfl⟩:=k;exact⟨_,drewN_add a p q⟩
theorem getD_set_true' {l:Array Bool}{i:Nat}(h:i<l.size):(l.setIfInBounds i true).getD i false=true:=by simp[h]
theorem wp_region_vlast {P:Program}{ops:Array Oper}{Q:Exit→Act→World→Prop}{id:Nat}{a:Act}{w:World}(hm:P.follows .mixedOrders=true) (hw:waitsBack ops=true) (m:Nat) (hsz:ops.size=m+2) (sl:Nat→Tmp) (t:Tmp) (val:Nat→Value) (R:Value→World→Prop) (par:Nat→Nat)
  (hpar:∀i,i<m→i<par i∧par i≤m∧∀o,ops[par i]? = some o→∃e∈o.after,e.on=i∧Region.binds .any e=true)
  (hlast:∀o,ops[m+1]? = some o→∃e∈o.after,e.on=m∧Region.binds .any e=true)
  (plain:∀(i:Nat) (o:Oper),ops[i]? = some o→o.guard=none)
  (dst:∀i o,i≤m→ops[i]? = some o→o.dst=some (sl i)) (dstl:∀o,ops[m+1]? = some o→o.dst=some t)
  (inj:∀i j,i≤m→j≤m→sl i=sl j→i=j) (lt:∀i,i≤m→sl i<a.tmps.size) (tl:t<a.tmps.size) (tn:∀i,i≤m→sl i≠t)
  (quiet:∀i o a' u,i<m→ops[i]? = some o→Qt w u→(∀s,s≠t→(∀j,j≤m→sl j≠s)→slot a' s=slot a s)→(∀e∈o.after,Region.binds .any e=true→slot a' (sl e.on)=val e.on)→∀K:Act→World→Prop,(∀u',(∃q,u'=u.drewN q)→K (a'.put o.dst (val i)) u')→o.wp P a' u K Q)
  (last:∀o a' u,ops[m]? = some o→Qt w u→(∀s,s≠t→(∀j,j≤m→sl j≠s)→slot a' s=slot a s)→(∀i,i<m→slot a' (sl i)=val i)→∀K:Act→World→Prop,(∀v u',R v u'→K (a'.put o.dst v) u')→o.wp P a' u K Q)
  (hand:∀o a' u v,ops[m+1]? = some o→slot a' (sl m)=v→∀K:Act→World→Prop,K (a'.put o.dst v) u→o.wp P a' u K Q)
  (done:∀a' u v,a'.tmps.size=a.tmps.size→a'.defers=a.defers→slot a' t=v→R v u→Q .normal a' u):(Code.region id ops true).wp P Q a w:=by
 have sne:∀{a':Act} {i j:Tmp} (v:Value),i≠j→slot (a'.put (some i) v) j=slot a' j:=fun v h=>slot_put_ne _ h
 have seq:∀{a':Act} {i:Tmp} (v:Value),i<a'.tmps.size→slot (a'.put (some i) v) i=v:=fun v h=>slot_put_eq _ h
 refine wp_region_listed hm (fun listed a' u=>a'.tmps.size=a.tmps.size∧a'.defers=a.defers∧(∀s,s≠t→(∀j,j≤m→sl j≠s)→slot a' s=slot a s)∧(∀i,i<m→listed.getD i false=true→slot a' (sl i)=val i)∧(listed.getD m false=false→Qt w u)∧(listed.getD m false=true→R (slot a' (sl m)) u)∧(listed.getD (m+1) false=true→slot a' t=slot a' (sl m))) hw ?_ ?_ ?_
 ·rintro listed i o a' u ho hn hi hdep hcl ⟨g1,g2,g3,g4,g5,g6,g7⟩;have hlt:i<m+2:=by rw[← hsz];exact(Array.getElem?_eq_some_iff.1 ho).1
  refine wpOp_plain ho (plain i o ho) ?_;have edge:∀j,j<m→listed.getD (par j) false=true→listed.getD j false=true:=fun j hj hl=>by
   obtain⟨p1,p2,p3⟩:=hpar j hj;obtain⟨o2,ho2⟩:∃o2,ops[par j]? = some o2:=⟨_,Array.getElem?_eq_getElem (by omega)⟩
   obtain⟨e,he,e1,e2⟩:=p3 o2 ho2;have:=hcl (par j) o2 hl ho2 e he e2;rwa [e1]at this
  have under:listed.getD m false=true→∀d j,j+d=m→listed.getD j false=true:=fun hl d=>by
   induction d using Nat.strongRecOn with
   | _ d ih =>
    intro j hj;by_cases c:j=m
    ·rw[c];exact hl
    ·obtain⟨p1,p2,_⟩:=hpar j (by omega);exact edge j (by omega) (ih (m-par j) (by omega) _ (by omega))
  have top:listed.getD (m+1) false=true→listed.getD m false=true:=fun hl=>by
   obtain⟨o2,ho2⟩:∃o2,ops[m+1]? = some o2:=⟨_,Array.getElem?_eq_getElem (by omega)⟩
   obtain⟨e,he,e1,e2⟩:=hlast o2 ho2;have:=hcl (m+1) o2 hl ho2 e he e2;rwa [e1]at this
  have mF:i≤m→listed.getD m false=false:=fun him=>by
   cases c:listed.getD m false with
   | false=>rfl
   | true=>rw[under c (m-i) i (by omega)]at hi;cases hi
  have tF:i≤m→listed.getD (m+1) false=false:=fun him=>by
   cases c:listed.getD (m+1) false with
   | false=>rfl
   | true=>rw[mF him]at top;exact absurd (top c) (by simp)
  by_cases c1:i<m
  ·have qu:=g5 (mF (by omega));refine quiet i o a' u c1 ho qu g3 (fun e he hb=>?_) _ fun u' hu=>?_
   ·have hl:=hdep e he hb;have hel:e.on<i:=by
     have h1:=hw;unfold waitsBack at h1;rw[List.all_eq_true]at h1;have h2:=h1 i (List.mem_range.2 (by omega));rw[ho]at h2;simp only[Option.map_some,Option.getD_some]at h2;rw[Array.all_eq_true]at h2;obtain⟨k,hk,rfl⟩:=Array.mem_iff_getElem.1 he;exact of_decide_eq_true (h2 k hk)
    exact g4 _ (by omega) hl
   ·rw[dst i o (by omega) ho];refine⟨by simp[Act.put,g1],by simp[Act.put,g2],fun s hs h=>?_,fun j hj hl=>?_,fun _=>Qt.trans qu hu,fun hl=>?_,fun hl=>?_⟩
    ·rw[sne _ (h i (by omega))];exact g3 s hs h
    ·by_cases e:j=i
     ·subst e;exact seq _ (by rw[g1];exact lt j (by omega))
     ·rw[getD_set_ne false (fun q=>e q.symm)]at hl;rw[sne _ fun q=>e (inj i j (by omega) (by omega) q).symm];exact g4 j hj hl
    ·rw[getD_set_ne false (by omega),mF (by omega)]at hl;cases hl
    ·rw[getD_set_ne false (by omega),tF (by omega)]at hl;cases hl
  ·by_cases c2:i=m
   ·subst c2;have all:∀d j,j+d=i→j<i→listed.getD j false=true:=fun d=>by
     induction d using Nat.strongRecOn with
     | _ d ih =>
      intro j hj hji;obtain⟨p1,p2,p3⟩:=hpar j hji;by_cases c:par j=i
      ·obtain⟨e,he,e1,e2⟩:=p3 o (by rw[c];exact ho);have:=hdep e he e2;rwa [e1]at this
      ·exact edge j hji (ih (i-par j) (by omega) _ (by omega) (by omega))
    refine last o a' u ho (g5 hi) g3 (fun j hj=>g4 j hj (all (i-j) j (by omega) hj)) _ fun v u' hR=>?_
    rw[dst i o (Nat.le_refl _) ho];refine⟨by simp[Act.put,g1],by simp[Act.put,g2],fun s hs h=>?_,fun j hj hl=>?_,fun hl=>?_,fun _=>?_,fun hl=>?_⟩
    ·rw[sne _ (h i (by omega))];exact g3 s hs h
    ·rw[sne _ fun q=>absurd (inj i j (by omega) (by omega) q) (by omega)];rw[getD_set_ne false (by omega)]at hl;exact g4 j hj hl
    ·rw[getD_set_true' (by omega)]at hl;cases hl
    ·rw[seq _ (by rw[g1];exact lt i (by omega))];exact hR
    ·rw[getD_set_ne false (by omega),tF (by omega)]at hl;cases hl
   ·obtain rfl:i=m+1:=by omega
    have hl:listed.getD m false=true:=by
     obtain⟨e,he,e1,e2⟩:=hlast o ho;have:=hdep e he e2;rwa [e1]at this
    refine hand o a' u _ ho rfl _ ?_;rw[dstl o ho];refine⟨by simp[Act.put,g1],by simp[Act.put,g2],fun s hs h=>?_,fun j hj hl'=>?_,fun hl'=>?_,fun _=>?_,fun _=>?_⟩
    ·rw[sne _ fun q=>hs q.symm];exact g3 s hs h
    ·rw[sne _ fun q=>tn j (by omega) q.symm];rw[getD_set_ne false (by omega)]at hl';exact g4 j hj hl'
    ·rw[getD_set_ne false (by omega),hl]at hl';cases hl'
    ·rw[sne _ fun q=>tn m (Nat.le_refl _) q.symm];exact g6 hl
    ·rw[seq _ (by rw[g1];exact tl),sne _ fun q=>tn m (Nat.le_refl _) q.symm]
 ·rintro listed a' u hall ⟨g1,g2,g3,g4,g5,g6,g7⟩;exact done a' u _ g1 g2 (g7 (hall _ (by omega))) (g6 (hall _ (by omega)))
 ·have no:∀j,(Array.replicate ops.size false).getD j false=false:=fun j=>by by_cases h:j<ops.size <;> simp[h]
  exact⟨rfl,rfl,fun _ _ _=>rfl,fun i _ h=>(by rw[no]at h;cases h),fun _=>Qt.drew w,fun h=>(by rw[no]at h;cases h),fun h=>(by rw[no]at h;cases h)⟩
def shapeV (ops:Array Oper) (m:Nat) (sl:Nat→Tmp) (t:Tmp) (par:Nat→Nat):Bool:=
 (List.range m).all (fun i=>decide (i<par i) && decide (par i≤m) && ((ops[par i]?).map fun o=>o.after.any fun e=>e.on == i && Region.binds .any e).getD false) &&
 ((ops[m+1]?).map fun o=>o.after.any fun e=>e.on == m && Region.binds .any e).getD false &&
 ops.all (fun o=>o.guard.isNone) && (List.range (m+1)).all (fun i=>((ops[i]?).map fun o=>o.dst == some (sl i)).getD false) && ((ops[m+1]?).map fun o=>o.dst == some t).getD false && decide (ops.size=m+2)
theorem edge_of {o:Oper}{i:Nat}(h:(o.after.any fun e=>e.on == i && Region.binds .any e)=true):∃e∈o.after,e.on=i∧Region.binds .any e=true:=by
 obtain⟨j,hj,h⟩:=Array.any_eq_true.1 h;rw[Bool.and_eq_true,beq_iff_eq]at h;exact⟨_,Array.getElem_mem hj,h.1,h.2⟩
theorem wp_region_vshape {P:Program}{ops:Array Oper}{Q:Exit→Act→World→Prop}{id:Nat}{a:Act}{w:World}(hm:P.follows .mixedOrders=true) (hw:waitsBack ops=true) (m:Nat) (sl:Nat→Tmp) (t:Tmp) (val:Nat→Value) (R:Value→World→Prop) (par:Nat→Nat) (sh:shapeV ops m sl t par=true)
  (inj:∀i j,i≤m→j≤m→sl i=sl j→i=j) (lt:∀i,i≤m→sl i<a.tmps.size) (tl:t<a.tmps.size) (tn:∀i,i≤m→sl i≠t)
  (quiet:∀i o a' u,i<m→ops[i]? = some o→Qt w u→(∀s,s≠t→(∀j,j≤m→sl j≠s)→slot a' s=slot a s)→(∀e∈o.after,Region.binds .any e=true→slot a' (sl e.on)=val e.on)→∀K:Act→World→Prop,(∀u',(∃q,u'=u.drewN q)→K (a'.put o.dst (val i)) u')→o.wp P a' u K Q)
  (last:∀o a' u,ops[m]? = some o→Qt w u→(∀s,s≠t→(∀j,j≤m→sl j≠s)→slot a' s=slot a s)→(∀i,i<m→slot a' (sl i)=val i)→∀K:Act→World→Prop,(∀v u',R v u'→K (a'.put o.dst v) u')→o.wp P a' u K Q)
  (hand:∀o a' u v,ops[m+1]? = some o→slot a' (sl m)=v→∀K:Act→World→Prop,K (a'.put o.dst v) u→o.wp P a' u K Q)
  (done:∀a' u v,a'.tmps.size=a.tmps.size→a'.defers=a.defers→slot a' t=v→R v u→Q .normal a' u):(Code.region id ops true).wp P Q a w:=by
 unfold shapeV at sh;simp only[Bool.and_eq_true,decide_eq_true_eq,List.all_eq_true,List.mem_range]at sh;obtain⟨⟨⟨⟨⟨s1,s2⟩,s3⟩,s4⟩,s5⟩,s6⟩:=sh;refine wp_region_vlast hm hw m s6 sl t val R par (fun i hi=>⟨(s1 i hi).1.1,(s1 i hi).1.2,fun o ho=>?_⟩) (fun o ho=>?_) (fun i o ho=>?_) (fun i o hi ho=>?_) (fun o ho=>?_) inj lt tl tn quiet last hand done
 ·have:=(s1 i hi).2;rw[ho]at this;exact edge_of this
 ·rw[ho]at s2;exact edge_of s2
 ·have h:=Array.all_eq_true.1 s3 i (Array.getElem?_eq_some_iff.1 ho).1;rw[(Array.getElem?_eq_some_iff.1 ho).2]at h;exact Option.isNone_iff_eq_none.1 h
 ·have:=s4 i (by omega);rw[ho]at this;exact beq_iff_eq.1 this
 ·rw[ho]at s5;exact beq_iff_eq.1 s5
section
variable {w0 w w':World}{E S bn bl k last:Nat}{N:List (Nat×Nd)}{L:List (Nd×Nat)}{M:Mdl}{F:Nat→Prop}
theorem Ex.quiet (h:Ex w0 w E S bn bl k N L last){u:World}(q:Qt w u):Ex w0 u E S bn bl k N L last:=by
 obtain⟨m,rfl⟩:=q;exact h.drewN m
set_option maxRecDepth 100000 in
set_option maxHeartbeats 2000000 in
theorem half_lo (s:St w0 S F M) (h:Ex w0 w E S bn bl k N L last) (hl:last≤1+M.room) (kn:k+1<M.n){x:Nat}(hx:x∈M.hs) (hN:∀y∈N.map (·.1),M.isNode y∨y≤last) :
  Calls Tryz.prog 105 #[.pointer (some ⟨E,0,none⟩),.int .u32 (x:Int),.func (.func 64) #[.pointer (some ⟨S,0,none⟩)] #[]] w fun e w'=>∃(y:Nat) (N':List (Nat×Nd)) (L':List (Nd×Nat)) (last':Nat),e = .returned (.int .u32 (y:Int))∧JnS M k (cof M k (M.nd x).2.1 false) (cof M k (M.nd x).2.2 false) N L last y N' L' last'∧Ex w0 w' E S bn bl k N' L' last'∧Went (XF E bn bl) w w':=by
 have o:=s.ok;have hxl:x<4294967296:=by have:=s.nodes (.inr hx);have:=s.room.2;omega
 have KL:∀u,Qt w u→Calls Tryz.prog 64 #[.pointer (some ⟨S,0,none⟩),.int .u32 (x:Int)] u fun e w'=>e = .returned (.int .u32 ((M.nd x).2.1:Int))∧w'=u:=fun u q=>by
  have:=s_low ((h.quiet q).st s) x hxl;rwa [Mdl.lowN_in o hx]at this
 have KH:∀u,Qt w u→Calls Tryz.prog 65 #[.pointer (some ⟨S,0,none⟩),.int .u32 (x:Int)] u fun e w'=>e = .returned (.int .u32 ((M.nd x).2.2:Int))∧w'=u:=fun u q=>by
  have:=s_high ((h.quiet q).st s) x hxl;rwa [Mdl.highN_in o hx]at this
 have A1:∀u,Qt w u→Calls Tryz.prog 125 #[.pointer (some ⟨E,0,none⟩),.int .u32 ((M.nd x).2.1:Int),.func (.func 64) #[.pointer (some ⟨S,0,none⟩)] #[]] u fun e w'=>e = .returned (.int .u32 (cof M k (M.nd x).2.1 false:Int))∧∃q,w'=u.drewN q:=fun u q=>at_lo s (h.quiet q) kn (o.lo x hx).1
 have A2:∀u,Qt w u→Calls Tryz.prog 125 #[.pointer (some ⟨E,0,none⟩),.int .u32 ((M.nd x).2.2:Int),.func (.func 64) #[.pointer (some ⟨S,0,none⟩)] #[]] u fun e w'=>e = .returned (.int .u32 (cof M k (M.nd x).2.2 false:Int))∧∃q,w'=u.drewN q:=fun u q=>at_lo s (h.quiet q) kn (o.hi x hx).1
 have KJ:∀u,Qt w u→Calls Tryz.prog 124 #[.pointer (some ⟨E,0,none⟩),.int .u32 (cof M k (M.nd x).2.1 false:Int),.int .u32 (cof M k (M.nd x).2.2 false:Int)] u _:=fun u q=>join_any s (h.quiet q) hl kn _ _ hN
 have C0:w.drew.cell? ⟨E,0,none⟩=some (.pointer (some ⟨S,0,none⟩)):=h.c0;have q0:Qt w w.drew:=Qt.drew w;have keepA:Aside (∀u,Qt w u→u.cell? ⟨E,0,none⟩=some (.pointer (some ⟨S,0,none⟩))):=fun u q=>(h.quiet q).c0
 have wentA:Aside (∀u,Qt w u→Went (XF E bn bl) w u):=fun u ⟨m,e⟩=>by rw[e];exact went_drewN (Went.refl _ _) m
 generalize cof M k (M.nd x).2.1 false=p at A1 KJ ⊢;generalize cof M k (M.nd x).2.2 false=q at A2 KJ ⊢;generalize (M.nd x).2.1=c at KL A1;generalize (M.nd x).2.2=d at KH A2;clear s h o hN hx;go_enter Tryz.func105,Tryz.ntmps105
 go_wp2_with fail
 refine wp_region_vshape (by kernel_rfl) (by kernel_rfl) 19 (fun i=>7+i) 6 (fun i=>[.pointer (some ⟨E,0,none⟩),.pointer (some ⟨E,0,none⟩),.pointer (some ⟨E,0,none⟩),.pointer (some ⟨E,0,none⟩),.pointer (some ⟨E,0,none⟩),.pointer (some ⟨S,0,none⟩),.int .u32 (x:Int),.int .u32 (c:Int),.func (.func 64) #[.pointer (some ⟨S,0,none⟩)] #[],.int .u32 (p:Int),.pointer (some ⟨E,0,none⟩),.pointer (some ⟨E,0,none⟩),.pointer (some ⟨E,0,none⟩),.pointer (some ⟨E,0,none⟩),.pointer (some ⟨S,0,none⟩),.int .u32 (x:Int),.int .u32 (d:Int),.func (.func 64) #[.pointer (some ⟨S,0,none⟩)] #[],.int .u32 (q:Int)].getD i undef)
  (fun v u=>∃(y:Nat) (N':List (Nat×Nd)) (L':List (Nd×Nat)) (last':Nat),v = .int .u32 (y:Int)∧JnS M k p q N L last y N' L' last'∧Ex w0 u E S bn bl k N' L' last'∧Went (XF E bn bl) w u)
  (fun i=>[19,9,3,4,5,7,7,9,9,19,18,12,13,14,16,16,18,18,19].getD i 0) (by kernel_rfl)
  (fun i j _ _ e=>Nat.add_left_cancel e) (fun i hi=>by show 7+i<27;omega) (by show (6:Nat)<27;decide) (fun i _ e=>by have:7+i=6:=e;omega) ?_ ?_ ?_ ?_
 ·intro i o a' u hi ho qu hs hdep K hK;have c0:=keepA.out u qu;have s0:slot a' 0 = .pointer (some ⟨E,0,none⟩):=hs 0 (by decide) (fun j _ e=>by have:7+j=0:=e;omega);have s1:slot a' 1 = .int .u32 (x:Int):=hs 1 (by decide) (fun j _ e=>by have:7+j=1:=e;omega);have s2:slot a' 2 = .func (.func 64) #[.pointer (some ⟨S,0,none⟩)] #[]:=hs 2 (by decide) (fun j _ e=>by have:7+j=2:=e;omega);unfold slot at s0 s1 s2;have d0:∃q,u=u.drewN q:=⟨0,rfl⟩
  clear hs;have ci:i=0∨i=1∨i=2∨i=3∨i=4∨i=5∨i=6∨i=7∨i=8∨i=9∨i=10∨i=11∨i=12∨i=13∨i=14∨i=15∨i=16∨i=17∨i=18:=by omega
  rcases ci with rfl|rfl|rfl|rfl|rfl|rfl|rfl|rfl|rfl|rfl|rfl|rfl|rfl|rfl|rfl|rfl|rfl|rfl|rfl <;> simp at ho <;> subst ho
  ·go_simp
   exact hK _ d0
  ·go_simp
   exact hK _ d0
  ·go_simp
   exact hK _ d0
  ·have v2:a'.tmps.getD 9 undef=(.pointer (some ⟨E,0,none⟩):Value):=hdep { on:=2,ground:=.data } (by simp) (by decide);go_simp
   exact hK _ d0
  ·have v3:a'.tmps.getD 10 undef=(.pointer (some ⟨E,0,none⟩):Value):=hdep { on:=3,ground:=.data } (by simp) (by decide);go_simp
   exact hK _ d0
  ·have v4:a'.tmps.getD 11 undef=(.pointer (some ⟨E,0,none⟩):Value):=hdep { on:=4,ground:=.data } (by simp) (by decide);go_simp
   exact hK _ d0
  ·go_simp
   exact hK _ d0
  ·have v5:a'.tmps.getD 12 undef=(.pointer (some ⟨S,0,none⟩):Value):=hdep { on:=5,ground:=.data } (by simp) (by decide);have v6:a'.tmps.getD 13 undef=(.int .u32 (x:Int):Value):=hdep { on:=6,ground:=.data } (by simp) (by decide);go_simp
   refine(KL u qu).mono ?_;rintro e w5 ⟨rfl,rfl⟩;exact hK _ ⟨0,rfl⟩
  ·go_simp
   exact hK _ d0
  ·have v1:a'.tmps.getD 8 undef=(.pointer (some ⟨E,0,none⟩):Value):=hdep { on:=1,ground:=.data } (by simp) (by decide);have v7:a'.tmps.getD 14 undef=(.int .u32 (c:Int):Value):=hdep { on:=7,ground:=.data } (by simp) (by decide);have v8:a'.tmps.getD 15 undef=(.func (.func 64) #[.pointer (some ⟨S,0,none⟩)] #[]:Value):=hdep { on:=8,ground:=.data } (by simp) (by decide);go_simp
   refine(A1 u qu).mono ?_;rintro e w5 ⟨rfl,hq⟩;exact hK _ hq
  ·go_simp
   exact hK _ d0
  ·go_simp
   exact hK _ d0
  ·have v11:a'.tmps.getD 18 undef=(.pointer (some ⟨E,0,none⟩):Value):=hdep { on:=11,ground:=.data } (by simp) (by decide);go_simp
   exact hK _ d0
  ·have v12:a'.tmps.getD 19 undef=(.pointer (some ⟨E,0,none⟩):Value):=hdep { on:=12,ground:=.data } (by simp) (by decide);go_simp
   exact hK _ d0
  ·have v13:a'.tmps.getD 20 undef=(.pointer (some ⟨E,0,none⟩):Value):=hdep { on:=13,ground:=.data } (by simp) (by decide);go_simp
   exact hK _ d0
  ·go_simp
   exact hK _ d0
  ·have v14:a'.tmps.getD 21 undef=(.pointer (some ⟨S,0,none⟩):Value):=hdep { on:=14,ground:=.data } (by simp) (by decide);have v15:a'.tmps.getD 22 undef=(.int .u32 (x:Int):Value):=hdep { on:=15,ground:=.data } (by simp) (by decide);go_simp
   refine(KH u qu).mono ?_;rintro e w5 ⟨rfl,rfl⟩;exact hK _ ⟨0,rfl⟩
  ·go_simp
   exact hK _ d0
  ·have v10:a'.tmps.getD 17 undef=(.pointer (some ⟨E,0,none⟩):Value):=hdep { on:=10,ground:=.data } (by simp) (by decide);have v16:a'.tmps.getD 23 undef=(.int .u32 (d:Int):Value):=hdep { on:=16,ground:=.data } (by simp) (by decide);have v17:a'.tmps.getD 24 undef=(.func (.func 64) #[.pointer (some ⟨S,0,none⟩)] #[]:Value):=hdep { on:=17,ground:=.data } (by simp) (by decide);go_simp
   refine(A2 u qu).mono ?_;rintro e w5 ⟨rfl,hq⟩;exact hK _ hq
 ·intro o a' u ho qu hs hv K hK;have v0:a'.tmps.getD 7 undef=(.pointer (some ⟨E,0,none⟩):Value):=hv 0 (by omega);have v9:a'.tmps.getD 16 undef=(.int .u32 (p:Int):Value):=hv 9 (by omega);have v18:a'.tmps.getD 25 undef=(.int .u32 (q:Int):Value):=hv 18 (by omega);clear hv hs;simp at ho;subst ho;go_simp
  refine(KJ u qu).mono ?_;rintro e w9 ⟨y,N',L',last',rfl,j9,h9,g9⟩;exact hK _ _ ⟨y,N',L',last',rfl,j9,h9,(wentA.out u qu).trans g9⟩
 ·intro o a' u v ho hv K hK;change a'.tmps.getD 26 undef=v at hv;simp at ho;subst ho;go_simp
  exact hK
 ·rintro a' u v hsz hdf hv ⟨y,N',L',last',rfl,j9,h9,g9⟩;change a'.tmps.getD 6 undef=_ at hv;refine ‹∀(a:Act) (w:World),Code.wp Tryz.prog Code.ret _ a w→_› a' u ?_
  go_wp2_with fail
  exact bodyPost_ret (v:=.int .u32 (y:Int)) (by simp only[Array.getD_eq_getD_getElem?]at hv;simp[results,Tryz.results105,hv,go_sem]) hdf ⟨y,rfl,N',L',last',j9,h9,g9⟩
set_option maxRecDepth 100000 in
set_option maxHeartbeats 2000000 in
theorem half_hi (s:St w0 S F M) (h:Ex w0 w E S bn bl k N L last) (hl:last≤1+M.room) (kn:k+1<M.n){x:Nat}(hx:x∈M.hs) (hN:∀y∈N.map (·.1),M.isNode y∨y≤last) :
  Calls Tryz.prog 105 #[.pointer (some ⟨E,0,none⟩),.int .u32 (x:Int),.func (.func 65) #[.pointer (some ⟨S,0,none⟩)] #[]] w fun e w'=>∃(y:Nat) (N':List (Nat×Nd)) (L':List (Nd×Nat)) (last':Nat),e = .returned (.int .u32 (y:Int))∧JnS M k (cof M k (M.nd x).2.1 true) (cof M k (M.nd x).2.2 true) N L last y N' L' last'∧Ex w0 w' E S bn bl k N' L' last'∧Went (XF E bn bl) w w':=by
 have o:=s.ok;have hxl:x<4294967296:=by have:=s.nodes (.inr hx);have:=s.room.2;omega
 have KL:∀u,Qt w u→Calls Tryz.prog 64 #[.pointer (some ⟨S,0,none⟩),.int .u32 (x:Int)] u fun e w'=>e = .returned (.int .u32 ((M.nd x).2.1:Int))∧w'=u:=fun u q=>by
  have:=s_low ((h.quiet q).st s) x hxl;rwa [Mdl.lowN_in o hx]at this
 have KH:∀u,Qt w u→Calls Tryz.prog 65 #[.pointer (some ⟨S,0,none⟩),.int .u32 (x:Int)] u fun e w'=>e = .returned (.int .u32 ((M.nd x).2.2:Int))∧w'=u:=fun u q=>by
  have:=s_high ((h.quiet q).st s) x hxl;rwa [Mdl.highN_in o hx]at this
 have A1:∀u,Qt w u→Calls Tryz.prog 125 #[.pointer (some ⟨E,0,none⟩),.int .u32 ((M.nd x).2.1:Int),.func (.func 65) #[.pointer (some ⟨S,0,none⟩)] #[]] u fun e w'=>e = .returned (.int .u32 (cof M k (M.nd x).2.1 true:Int))∧∃q,w'=u.drewN q:=fun u q=>at_hi s (h.quiet q) kn (o.lo x hx).1
 have A2:∀u,Qt w u→Calls Tryz.prog 125 #[.pointer (some ⟨E,0,none⟩),.int .u32 ((M.nd x).2.2:Int),.func (.func 65) #[.pointer (some ⟨S,0,none⟩)] #[]] u fun e w'=>e = .returned (.int .u32 (cof M k (M.nd x).2.2 true:Int))∧∃q,w'=u.drewN q:=fun u q=>at_hi s (h.quiet q) kn (o.hi x hx).1
 have KJ:∀u,Qt w u→Calls Tryz.prog 124 #[.pointer (some ⟨E,0,none⟩),.int .u32 (cof M k (M.nd x).2.1 true:Int),.int .u32 (cof M k (M.nd x).2.2 true:Int)] u _:=fun u q=>join_any s (h.quiet q) hl kn _ _ hN
 have C0:w.drew.cell? ⟨E,0,none⟩=some (.pointer (some ⟨S,0,none⟩)):=h.c0;have q0:Qt w w.drew:=Qt.drew w;have keepA:Aside (∀u,Qt w u→u.cell? ⟨E,0,none⟩=some (.pointer (some ⟨S,0,none⟩))):=fun u q=>(h.quiet q).c0
 have wentA:Aside (∀u,Qt w u→Went (XF E bn bl) w u):=fun u ⟨m,e⟩=>by rw[e];exact went_drewN (Went.refl _ _) m
 generalize cof M k (M.nd x).2.1 true=p at A1 KJ ⊢;generalize cof M k (M.nd x).2.2 true=q at A2 KJ ⊢;generalize (M.nd x).2.1=c at KL A1;generalize (M.nd x).2.2=d at KH A2;clear s h o hN hx;go_enter Tryz.func105,Tryz.ntmps105
 go_wp2_with fail
 refine wp_region_vshape (by kernel_rfl) (by kernel_rfl) 19 (fun i=>7+i) 6 (fun i=>[.pointer (some ⟨E,0,none⟩),.pointer (some ⟨E,0,none⟩),.pointer (some ⟨E,0,none⟩),.pointer (some ⟨E,0,none⟩),.pointer (some ⟨E,0,none⟩),.pointer (some ⟨S,0,none⟩),.int .u32 (x:Int),.int .u32 (c:Int),.func (.func 65) #[.pointer (some ⟨S,0,none⟩)] #[],.int .u32 (p:Int),.pointer (some ⟨E,0,none⟩),.pointer (some ⟨E,0,none⟩),.pointer (some ⟨E,0,none⟩),.pointer (some ⟨E,0,none⟩),.pointer (some ⟨S,0,none⟩),.int .u32 (x:Int),.int .u32 (d:Int),.func (.func 65) #[.pointer (some ⟨S,0,none⟩)] #[],.int .u32 (q:Int)].getD i undef)
  (fun v u=>∃(y:Nat) (N':List (Nat×Nd)) (L':List (Nd×Nat)) (last':Nat),v = .int .u32 (y:Int)∧JnS M k p q N L last y N' L' last'∧Ex w0 u E S bn bl k N' L' last'∧Went (XF E bn bl) w u)
  (fun i=>[19,9,3,4,5,7,7,9,9,19,18,12,13,14,16,16,18,18,19].getD i 0) (by kernel_rfl)
  (fun i j _ _ e=>Nat.add_left_cancel e) (fun i hi=>by show 7+i<27;omega) (by show (6:Nat)<27;decide) (fun i _ e=>by have:7+i=6:=e;omega) ?_ ?_ ?_ ?_
 ·intro i o a' u hi ho qu hs hdep K hK;have c0:=keepA.out u qu;have s0:slot a' 0 = .pointer (some ⟨E,0,none⟩):=hs 0 (by decide) (fun j _ e=>by have:7+j=0:=e;omega);have s1:slot a' 1 = .int .u32 (x:Int):=hs 1 (by decide) (fun j _ e=>by have:7+j=1:=e;omega);have s2:slot a' 2 = .func (.func 65) #[.pointer (some ⟨S,0,none⟩)] #[]:=hs 2 (by decide) (fun j _ e=>by have:7+j=2:=e;omega);unfold slot at s0 s1 s2;have d0:∃q,u=u.drewN q:=⟨0,rfl⟩
  clear hs;have ci:i=0∨i=1∨i=2∨i=3∨i=4∨i=5∨i=6∨i=7∨i=8∨i=9∨i=10∨i=11∨i=12∨i=13∨i=14∨i=15∨i=16∨i=17∨i=18:=by omega
  rcases ci with rfl|rfl|rfl|rfl|rfl|rfl|rfl|rfl|rfl|rfl|rfl|rfl|rfl|rfl|rfl|rfl|rfl|rfl|rfl <;> simp at ho <;> subst ho
  ·go_simp
   exact hK _ d0
  ·go_simp
   exact hK _ d0
  ·go_simp
   exact hK _ d0
  ·have v2:a'.tmps.getD 9 undef=(.pointer (some ⟨E,0,none⟩):Value):=hdep { on:=2,ground:=.data } (by simp) (by decide);go_simp
   exact hK _ d0
  ·have v3:a'.tmps.getD 10 undef=(.pointer (some ⟨E,0,none⟩):Value):=hdep { on:=3,ground:=.data } (by simp) (by decide);go_simp
   exact hK _ d0
  ·have v4:a'.tmps.getD 11 undef=(.pointer (some ⟨E,0,none⟩):Value):=hdep { on:=4,ground:=.data } (by simp) (by decide);go_simp
   exact hK _ d0
  ·go_simp
   exact hK _ d0
  ·have v5:a'.tmps.getD 12 undef=(.pointer (some ⟨S,0,none⟩):Value):=hdep { on:=5,ground:=.data } (by simp) (by decide);have v6:a'.tmps.getD 13 undef=(.int .u32 (x:Int):Value):=hdep { on:=6,ground:=.data } (by simp) (by decide);go_simp
   refine(KL u qu).mono ?_;rintro e w5 ⟨rfl,rfl⟩;exact hK _ ⟨0,rfl⟩
  ·go_simp
   exact hK _ d0
  ·have v1:a'.tmps.getD 8 undef=(.pointer (some ⟨E,0,none⟩):Value):=hdep { on:=1,ground:=.data } (by simp) (by decide);have v7:a'.tmps.getD 14 undef=(.int .u32 (c:Int):Value):=hdep { on:=7,ground:=.data } (by simp) (by decide);have v8:a'.tmps.getD 15 undef=(.func (.func 65) #[.pointer (some ⟨S,0,none⟩)] #[]:Value):=hdep { on:=8,ground:=.data } (by simp) (by decide);go_simp
   refine(A1 u qu).mono ?_;rintro e w5 ⟨rfl,hq⟩;exact hK _ hq
  ·go_simp
   exact hK _ d0
  ·go_simp
   exact hK _ d0
  ·have v11:a'.tmps.getD 18 undef=(.pointer (some ⟨E,0,none⟩):Value):=hdep { on:=11,ground:=.data } (by simp) (by decide);go_simp
   exact hK _ d0
  ·have v12:a'.tmps.getD 19 undef=(.pointer (some ⟨E,0,none⟩):Value):=hdep { on:=12,ground:=.data } (by simp) (by decide);go_simp
   exact hK _ d0
  ·have v13:a'.tmps.getD 20 undef=(.pointer (some ⟨E,0,none⟩):Value):=hdep { on:=13,ground:=.data } (by simp) (by decide);go_simp
   exact hK _ d0
  ·go_simp
   exact hK _ d0
  ·have v14:a'.tmps.getD 21 undef=(.pointer (some ⟨S,0,none⟩):Value):=hdep { on:=14,ground:=.data } (by simp) (by decide);have v15:a'.tmps.getD 22 undef=(.int .u32 (x:Int):Value):=hdep { on:=15,ground:=.data } (by simp) (by decide);go_simp
   refine(KH u qu).mono ?_;rintro e w5 ⟨rfl,rfl⟩;exact hK _ ⟨0,rfl⟩
  ·go_simp
   exact hK _ d0
  ·have v10:a'.tmps.getD 17 undef=(.pointer (some ⟨E,0,none⟩):Value):=hdep { on:=10,ground:=.data } (by simp) (by decide);have v16:a'.tmps.getD 23 undef=(.int .u32 (d:Int):Value):=hdep { on:=16,ground:=.data } (by simp) (by decide);have v17:a'.tmps.getD 24 undef=(.func (.func 65) #[.pointer (some ⟨S,0,none⟩)] #[]:Value):=hdep { on:=17,ground:=.data } (by simp) (by decide);go_simp
   refine(A2 u qu).mono ?_;rintro e w5 ⟨rfl,hq⟩;exact hK _ hq
 ·intro o a' u ho qu hs hv K hK;have v0:a'.tmps.getD 7 undef=(.pointer (some ⟨E,0,none⟩):Value):=hv 0 (by omega);have v9:a'.tmps.getD 16 undef=(.int .u32 (p:Int):Value):=hv 9 (by omega);have v18:a'.tmps.getD 25 undef=(.int .u32 (q:Int):Value):=hv 18 (by omega);clear hv hs;simp at ho;subst ho;go_simp
  refine(KJ u qu).mono ?_;rintro e w9 ⟨y,N',L',last',rfl,j9,h9,g9⟩;exact hK _ _ ⟨y,N',L',last',rfl,j9,h9,(wentA.out u qu).trans g9⟩
 ·intro o a' u v ho hv K hK;change a'.tmps.getD 26 undef=v at hv;simp at ho;subst ho;go_simp
  exact hK
 ·rintro a' u v hsz hdf hv ⟨y,N',L',last',rfl,j9,h9,g9⟩;change a'.tmps.getD 6 undef=_ at hv;refine ‹∀(a:Act) (w:World),Code.wp Tryz.prog Code.ret _ a w→_› a' u ?_
  go_wp2_with fail
  exact bodyPost_ret (v:=.int .u32 (y:Int)) (by simp only[Array.getD_eq_getD_getElem?]at hv;simp[results,Tryz.results105,hv,go_sem]) hdf ⟨y,rfl,N',L',last',j9,h9,g9⟩
end
end Go.Proofs.YtnnmdkaoiofabaaGreat.Sw
