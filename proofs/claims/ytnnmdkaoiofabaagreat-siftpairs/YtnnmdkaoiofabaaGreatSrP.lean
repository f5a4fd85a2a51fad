/-
  A drawn statement each of whose operations leaves a value with a property that new memory keeps; behind it the frame is told slot by slot.
  A drawn statement whose last operation stores.
-/
import Derived.Test.YtnnmdkaoiofabaaGreatBaseG
namespace Go.Proofs.YtnnmdkaoiofabaaGreat
open Go Go.RowKit
theorem wp_region_prs {P:Program} {ops:Array Oper} {Q:Exit→Act→World→Prop} {id:Nat} {a:Act} {w:World} (hm:P.follows .mixedOrders=true) (hw:waitsBack ops=true) (sl:Nat→Tmp) (pr:Nat→Value→World→Prop)
  (mono:∀ i v w w',Below w.heap.size w w'→pr i v w→pr i v w')
  (dst:∀ i o,ops[i]? = some o→o.dst=some (sl i)∧o.guard=none)
  (inj:∀ i j,i<ops.size→j<ops.size→sl i=sl j→i=j) (lt:∀ i,i<ops.size→sl i<a.tmps.size)
  (step:∀ i o a' w',ops[i]? = some o→(∀ s,(∀ j,j<ops.size→sl j≠s)→slot a' s=slot a s)→Below w.heap.size w.drew w'→(∀ e∈o.after,Region.binds .any e=true→pr e.on (slot a' (sl e.on)) w')→∀ K:Act→World→Prop,(∀ v w'',Below w'.heap.size w' w''→pr i v w''→K (a'.put o.dst v) w'')→o.wp P a' w' K Q)
  (done:∀ a' w',a'.tmps.size=a.tmps.size→a'.defers=a.defers→(∀ s,(∀ j,j<ops.size→sl j≠s)→slot a' s=slot a s)→Below w.heap.size w.drew w'→(∀ i,i<ops.size→pr i (slot a' (sl i)) w')→Q .normal a' w'):(Code.region id ops true).wp P Q a w:=by
 refine wp_region_any hm ?_
 change wpAny _ _ _ _ _ _ _ w.drew
 refine wpAny_posts' (fun a' w'=>a'.tmps.size=a.tmps.size∧a'.defers=a.defers∧(∀ s,(∀ j,j<ops.size→sl j≠s)→slot a' s=slot a s)∧Below w.heap.size w.drew w') (fun i a' w'=>i<ops.size→pr i (slot a' (sl i)) w') hw ?_ ?_ ops.size (Array.replicate ops.size false) a w.drew (by simp) ?_ ⟨rfl,rfl,fun _ _=>rfl,Below.refl _ _⟩ (fun j hj=>?_) (fun j o hj=>?_)
 ·intro i o a' w' ho ⟨g1,g2,g3,g4⟩ hdep
  have hi:i<ops.size:=(Array.getElem?_eq_some_iff.1 ho).1
  obtain ⟨hd,hg⟩:=dst i o ho
  have hwant:Region.wanted o (yielded ops a'.tmps)=true:=by simp [Region.wanted,hg]
  have hlt:sl i<a'.tmps.size:=by rw [g1];exact lt i hi
  unfold wpOp
  rw [ho]
  simp only [hwant,if_true]
  refine .inl (step i o a' w' ho g3 g4 (fun e he hb=>hdep e he hb ?_) _ fun v w'' hB hp=>⟨⟨?_,?_,?_,?_⟩,?_,?_⟩)
  ·have h1:=hw
   unfold waitsBack at h1
   rw [List.all_eq_true] at h1
   have h2:=h1 i (List.mem_range.2 hi)
   rw [ho] at h2
   simp only [Option.map_some,Option.getD_some] at h2
   rw [Array.all_eq_true] at h2
   obtain ⟨k,hk,rfl⟩:=Array.mem_iff_getElem.1 he
   have:=of_decide_eq_true (h2 k hk)
   omega
  ·rw [hd];simp [Act.put,g1]
  ·rw [hd];simp [Act.put,g2]
  ·intro s hs
   rw [hd,slot_put_ne _ (hs i hi)]
   exact g3 s hs
  ·exact g4.trans ⟨hB.os,hB.tape,hB.output,hB.size,fun k hk=>hB.block k (Nat.lt_of_lt_of_le hk g4.size)⟩
  ·intro _
   rw [hd,slot_put_eq _ hlt]
   exact hp
  ·intro j o' hji _ _ hp' hj
   rw [hd,slot_put_ne _ (fun e=>hji (inj j i hj hi e.symm))]
   exact mono j _ _ _ hB (hp' hj)
 ·rintro a' w' ⟨g1,g2,g3,g4⟩ hp
  exact done a' w' g1 g2 g3 g4 fun i hi=>hp i hi hi
 ·unfold toCome
  have:=List.length_filter_le (fun j=>!(Array.replicate ops.size false).getD j true) (List.range ops.size)
  simpa using this
 ·by_cases h:j<ops.size <;> simp [h] at hj
 ·by_cases h:j<ops.size <;> simp [h] at hj
theorem wp_region_prf {P:Program} {ops:Array Oper} {Q:Exit→Act→World→Prop} {id:Nat} {a:Act} {w:World} (hm:P.follows .mixedOrders=true) (hw:waitsBack ops=true) (sl:Nat→Tmp) (pr:Nat→Value→World→Prop)
  (mono:∀ i v w w',Below w.heap.size w w'→pr i v w→pr i v w')
  (dst:∀ i o,ops[i]? = some o→o.dst=some (sl i)∧o.guard=none)
  (inj:∀ i j,i<ops.size→j<ops.size→sl i=sl j→i=j) (lt:∀ i,i<ops.size→sl i<a.tmps.size)
  (step:∀ i o a' w',ops[i]? = some o→(∀ s,(∀ j,j<ops.size→sl j≠s)→slot a' s=slot a s)→Below w.heap.size w.drew w'→(∀ e∈o.after,Region.binds .any e=true→pr e.on (slot a' (sl e.on)) w')→∀ K:Act→World→Prop,(∀ v w'',Below w'.heap.size w' w''→pr i v w''→K (a'.put o.dst v) w'')→o.wp P a' w' K Q)
  (done:∀ (f:Nat→Value) w',Below w.heap.size w.drew w'→(∀ i,i<ops.size→pr i (f i) w')→Q .normal (Rf.vfin ((List.range ops.size).map fun i=>(sl i,f i)) a) w'):(Code.region id ops true).wp P Q a w:=by
 refine wp_region_prs hm hw sl pr mono dst inj lt step fun a' w' h1 h2 h3 h4 h5=>?_
 have e:a'=Rf.vfin ((List.range ops.size).map fun i=>(sl i,slot a' (sl i))) a:=by
  refine Rf.vact_fin _ a a' ?_ h1 h2 (fun s hs=>h3 s fun j hj e=>hs ?_) (fun k hk=>?_)
  ·rw [List.map_map]
   exact nodup_map_on _ _ List.nodup_range fun x hx y hy q=>inj x y (List.mem_range.1 hx) (List.mem_range.1 hy) q
  ·rw [List.map_map]
   exact List.mem_map.2 ⟨j,List.mem_range.2 hj,e⟩
  ·obtain ⟨i,hi,rfl⟩:=List.mem_map.1 hk
   exact ⟨lt i (List.mem_range.1 hi),rfl⟩
 rw [e]
 exact done (fun i=>slot a' (sl i)) w' h4 h5
end Go.Proofs.YtnnmdkaoiofabaaGreat

namespace Go.Proofs.YtnnmdkaoiofabaaGreat
open Go Go.RowKit
open Rf (tab word IsTab)
structure SG (w5:World) (n b:Nat) (val:Nat→Value) (fin:World→World) (a0:Act) (listed:Array Bool) (a:Act) (w:World):Prop where
 size:a.tmps.size=a0.tmps.size
 defers:a.defers=a0.defers
 other:∀ s,(s<b∨b+n≤s)→slot a s=slot a0 s
 vals:∀ i,i<n→listed.getD i false=true→slot a (b+i)=val i
 world:∃ wy,Below w5.heap.size w5 wy∧w=if listed.getD n false=true then fin wy else wy
section
variable {w5:World} {n b:Nat} {val:Nat→Value} {fin:World→World} {a0:Act} {listed:Array Bool} {a:Act} {w w':World}
theorem SG.start (k:Nat):SG w5 n b val fin a0 (Array.replicate k false) a0 w5:=by
 refine ⟨rfl,rfl,fun _ _=>rfl,fun i _ hl=>?_,w5,Below.refl _ _,?_⟩
 ·rw [getD_start] at hl;cases hl
 ·rw [getD_start];simp
theorem SG.now (g:SG w5 n b val fin a0 listed a w) (nl:listed.getD n false=false):Below w5.heap.size w5 w:=by
 obtain ⟨wy,h1,h2⟩:=g.world
 rw [nl] at h2
 simp at h2
 subst h2
 exact h1
theorem SG.step (g:SG w5 n b val fin a0 listed a w) {i:Nat} (hi:i<n) (hb:b+n≤a0.tmps.size) (nl:listed.getD n false=false) (k:Below w.heap.size w w'):SG w5 n b val fin a0 (listed.setIfInBounds i true) (a.put (some (b+i)) (val i)) w':=by
 refine ⟨by simp [Act.put,g.size],by simp [Act.put,g.defers],fun s hs=>?_,fun j hj hl=>?_,w',Rf.below_far (g.now nl) k,?_⟩
 ·rw [slot_put_ne _ (show @Ne Nat (b+i) s by omega)]
  exact g.other s hs
 ·by_cases e:i=j
  ·subst e
   exact slot_put_eq _ (show @LT.lt Nat _ (b+i) a.tmps.size by rw [g.size];omega)
  ·rw [getD_set_ne false e] at hl
   rw [slot_put_ne _ (show @Ne Nat (b+i) (b+j) by omega)]
   exact g.vals j hj hl
 ·rw [getD_set_ne false (by omega),nl]
  simp
theorem SG.store (g:SG w5 n b val fin a0 listed a w) (hn:listed.size=n+1) (nl:listed.getD n false=false):SG w5 n b val fin a0 (listed.setIfInBounds n true) a (fin w):=by
 refine ⟨g.size,g.defers,g.other,fun j hj hl=>g.vals j hj (by rwa [getD_set_ne false (by omega)] at hl),w,g.now nl,?_⟩
 simp [hn]
end
end Go.Proofs.YtnnmdkaoiofabaaGreat
