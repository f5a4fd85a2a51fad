/-
  What the library's atomic numbers and package mem's steps do to one cell, over every world that holds it. What each call of package mem does to a row of cells, in the cells and beside them, over every world that holds the row. What package mem's New lays: a row of so many cells, all 0. What package bits' Home returns: a place below the size, one for each key and size. What package bits packs and tells: a level and two handles in one word. A number added to a cell (Mem.Add).
-/
import Derived.Test.YtnnmdkaoiofabaaGreatProg
import Derived.WalkKit
import Derived.Handy
import Derived.Laws.LoneSync
import Derived.Deep.OwnRows
import Derived.Deep.RegionWith
import Derived.Laws.Entries
import Derived.Laws.BitsLemmas
import Derived.Laws.BitsAllLaws
import Derived.Laws.Bits64
import Derived.Laws.Closers25b
namespace Go.Proofs.YtnnmdkaoiofabaaGreat
open Go Go.RowKit
theorem add_i64 (x y:Int) (w:World):(Op.intArith .add .i64 x y).run Tryz.prog w = .ok (.int .i64 (wrap64 (x+y))) w:=by
 simp[go_sem,wrap64,IntKind.wrap_i64]
theorem count_any (b o:Nat) (x y:Int) (w:World) (hc:w.cell? ⟨b,o,none⟩=some (.int .i64 x)) (hf:w.frozen? ⟨b,o,none⟩=false) :
  Calls Tryz.prog 183 #[.pointer (some ⟨b,o,none⟩),.int .i64 y] w fun e w'=>e = .returned (.int .i64 (wrap64 (x+y)))∧w'=w.setCell ⟨b,o,none⟩ (.int .i64 (wrap64 (x+y))):=by
 have h:=run_call_add (P:=Tryz.prog) Tryz.func193 (by kernel_rfl) (by kernel_rfl) (by kernel_rfl) .i64 (by kernel_rfl) hc hf (add_i64 x y w);go_enter Tryz.func183,Tryz.ntmps183
 go_wp2
 go_ret
 exact⟨rfl,rfl⟩
theorem cload_any (b o:Nat) (x:Int) (w:World) (hc:w.cell? ⟨b,o,none⟩=some (.int .u64 x)) :
  Calls Tryz.prog 190 #[.pointer (some ⟨b,o,none⟩)] w fun e w'=>e = .returned (.int .u64 x)∧w'=w:=by
 have h:=run_call_load (P:=Tryz.prog) Tryz.func198 (by kernel_rfl) (by kernel_rfl) (by kernel_rfl) .u64 (by kernel_rfl) hc;go_enter Tryz.func190,Tryz.ntmps190
 go_wp2
 go_ret
 exact⟨rfl,rfl⟩
theorem cstore_any (b o:Nat) (x y:Int) (w:World) (hc:w.cell? ⟨b,o,none⟩=some (.int .u64 x)) (hf:w.frozen? ⟨b,o,none⟩=false) :
  Calls Tryz.prog 184 #[.pointer (some ⟨b,o,none⟩),.int .u64 y] w fun e w'=>e = .returned (.tuple #[])∧w'=w.setCell ⟨b,o,none⟩ (.int .u64 y):=by
 have h:=run_call_store (P:=Tryz.prog) Tryz.func194 (by kernel_rfl) (by kernel_rfl) (by kernel_rfl) (by kernel_rfl) (k:=.u64) (y:=y) hc hf;go_enter Tryz.func184,Tryz.ntmps184
 go_wp2
 go_end0
 exact⟨rfl,rfl⟩
theorem chit_any (b o:Nat) (x y:Int) (w:World) (hc:w.cell? ⟨b,o,none⟩=some (.int .u64 x)) (hf:w.frozen? ⟨b,o,none⟩=false) :
  Calls Tryz.prog 201 #[.pointer (some ⟨b,o,none⟩),.int .u64 x,.int .u64 y] w fun e w'=>e = .returned (.bool true)∧w'=w.setCell ⟨b,o,none⟩ (.int .u64 y):=by
 have h:=run_call_cas_hit (P:=Tryz.prog) Tryz.func202 (by kernel_rfl) (by kernel_rfl) (by kernel_rfl) .u64 (by kernel_rfl) (y:=y) hc hf;go_enter Tryz.func201,Tryz.ntmps201
 go_wp2
 go_ret
 exact⟨rfl,rfl⟩
theorem cmiss_any (b o:Nat) (x z y:Int) (w:World) (hc:w.cell? ⟨b,o,none⟩=some (.int .u64 x)) (hf:w.frozen? ⟨b,o,none⟩=false) (hne:¬x=z) :
  Calls Tryz.prog 201 #[.pointer (some ⟨b,o,none⟩),.int .u64 z,.int .u64 y] w fun e w'=>e = .returned (.bool false)∧w'=w:=by
 have h:=run_call_cas_miss (P:=Tryz.prog) Tryz.func202 (by kernel_rfl) (by kernel_rfl) (by kernel_rfl) .u64 (by kernel_rfl) (o:=z) (y:=y) hc hf hne;clear hne;go_enter Tryz.func201,Tryz.ntmps201
 go_wp2
 go_ret
 exact⟨rfl,rfl⟩
theorem put_any (b o:Nat) (x y:Int) (w:World) (hc:w.cell? ⟨b,o,none⟩=some (.int .u64 x)) (hf:w.frozen? ⟨b,o,none⟩=false) :
  Calls Tryz.prog 175 #[.int .u64 y,.pointer (some ⟨b,o,none⟩)] w fun e w'=>e = .returned (.int .u64 0)∧w'=w.setCell ⟨b,o,none⟩ (.int .u64 y):=by
 go_enter Tryz.func175,Tryz.ntmps175
 go_wp2_with (go_at_call 184;refine(cstore_any b o x y w hc hf).mono ?_;rintro e w' ⟨rfl,rfl⟩)
 go_ret
 exact⟨rfl,rfl⟩
def opsOf (x y:Int) (P:Nat):Obj:=.cells #[.int .u64 x,.int .u64 y,.pointer (some ⟨P,2,none⟩)] 274
theorem hit_any (b o P:Nat) (x y:Int) (w:World) (hc:w.cell? ⟨b,o,none⟩=some (.int .u64 x)) (hf:w.frozen? ⟨b,o,none⟩=false) (hb:b<w.heap.size) :
  Calls Tryz.prog 200 #[.agg #[.int .u64 x,.int .u64 y,.pointer (some ⟨P,2,none⟩)],.pointer (some ⟨b,o,none⟩)] w fun e w'=>e = .returned (.bool true)∧w'=(w.setCell ⟨b,o,none⟩ (.int .u64 y)).alloc (opsOf x y P):=by
 have hc':(w.alloc (opsOf x y P)).cell? ⟨b,o,none⟩=some (.int .u64 x):=by rw[World.cell?_alloc_past _ _ _ hb];exact hc
 have hf':(w.alloc (opsOf x y P)).frozen? ⟨b,o,none⟩=false:=by rw[World.frozen?_alloc_old _ _ _ (Nat.ne_of_lt hb)];exact hf
 unfold opsOf at hc' hf' ⊢;go_enter Tryz.func200,Tryz.ntmps200
 go_wp2_with (go_at_call 201;refine(chit_any b o x y _ hc' hf').mono ?_;rintro e w' ⟨rfl,rfl⟩)
 go_ret
 exact⟨rfl,rfl⟩
theorem miss_any (b o P:Nat) (x z y k:Int) (w:World) (hc:w.cell? ⟨b,o,none⟩=some (.int .u64 x)) (hf:w.frozen? ⟨b,o,none⟩=false) (hb:b<w.heap.size) (hne:¬x=z)
  (gc:w.cell? ⟨P,2,none⟩=some (.int .i64 k)) (gf:w.frozen? ⟨P,2,none⟩=false) (hP:P<w.heap.size) :
   Calls Tryz.prog 200 #[.agg #[.int .u64 z,.int .u64 y,.pointer (some ⟨P,2,none⟩)],.pointer (some ⟨b,o,none⟩)] w fun e w'=>e = .returned (.bool false)∧w'=(w.setCell ⟨P,2,none⟩ (.int .i64 (wrap64 (k+1)))).alloc (opsOf z y P):=by
 have hc':(w.alloc (opsOf z y P)).cell? ⟨b,o,none⟩=some (.int .u64 x):=by rw[World.cell?_alloc_past _ _ _ hb];exact hc
 have hf':(w.alloc (opsOf z y P)).frozen? ⟨b,o,none⟩=false:=by rw[World.frozen?_alloc_old _ _ _ (Nat.ne_of_lt hb)];exact hf
 have gc':(w.alloc (opsOf z y P)).cell? ⟨P,2,none⟩=some (.int .i64 k):=by rw[World.cell?_alloc_past _ _ _ hP];exact gc
 have gf':(w.alloc (opsOf z y P)).frozen? ⟨P,2,none⟩=false:=by rw[World.frozen?_alloc_old _ _ _ (Nat.ne_of_lt hP)];exact gf
 unfold opsOf at hc' hf' gc' gf' ⊢;go_enter Tryz.func200,Tryz.ntmps200
 go_wp2_with (first | (go_at_call 201;refine(cmiss_any b o x z y _ hc' hf' hne).mono ?_;rintro e w' ⟨rfl,rfl⟩) | (go_at_call 183;refine(count_any P 2 k 1 _ gc' gf').mono ?_;rintro e w' ⟨rfl,rfl⟩))
 go_ret
 exact⟨rfl,rfl⟩
end Go.Proofs.YtnnmdkaoiofabaaGreat
namespace Go.Proofs.YtnnmdkaoiofabaaGreat
open Go Go.RowKit
structure IsMem (w:World) (P R n:Nat) (c:Nat→Int) (ops fails:Int):Prop where
 head:w.heap[P]? = some (.cells #[.slice (some ⟨R,0,none⟩) n n,.int .i64 ops,.int .i64 fails] 144 (0,0))
 row:w.rowIs R 261 n (fun i=>.int .u64 (c i))
 ne:P≠R
structure Moved (P R:Nat) (w w':World):Prop where
 os:w'.os=w.os
 tape:w'.tape=w.tape
 output:w'.output=w.output
 size:w.heap.size≤w'.heap.size
 block:∀k,k<w.heap.size→k≠P→k≠R→w'.heap[k]? = w.heap[k]?
theorem Moved.refl (P R:Nat) (w:World):Moved P R w w:=⟨rfl,rfl,rfl,Nat.le_refl _,fun _ _ _ _=>rfl⟩
theorem Moved.trans {P R:Nat}{a b c:World}(h:Moved P R a b) (k:Moved P R b c):Moved P R a c:=
 ⟨k.os.trans h.os,k.tape.trans h.tape,k.output.trans h.output,Nat.le_trans h.size k.size,fun i hi hp hr=>(k.block i (Nat.lt_of_lt_of_le hi h.size) hp hr).trans (h.block i hi hp hr)⟩
theorem Moved.setP {P R:Nat}(w:World) (o:Nat) (v:Value):Moved P R w (w.setCell ⟨P,o,none⟩ v):=
 ⟨rfl,rfl,rfl,by simp[World.setCell],fun k _ hp _=>Below.heap_setCell _ _ _ _ hp⟩
theorem Moved.setR {P R:Nat}(w:World) (o:Nat) (v:Value):Moved P R w (w.setCell ⟨R,o,none⟩ v):=
 ⟨rfl,rfl,rfl,by simp[World.setCell],fun k _ _ hr=>Below.heap_setCell _ _ _ _ hr⟩
theorem Moved.new {P R:Nat}(w:World) (o:Obj):Moved P R w (w.alloc o):=
 ⟨rfl,rfl,rfl,by simp,fun k hk _ _=>Below.heap_alloc _ _ _ hk⟩
def upd (c:Nat→Int) (i:Nat) (v:Int):Nat→Int:=fun j=>if j=i then v else c j
namespace IsMem
variable {w:World}{P R n:Nat}{c:Nat→Int}{ops fails:Int}
theorem ltP (h:IsMem w P R n c ops fails):P<w.heap.size:=(Array.getElem?_eq_some_iff.1 h.head).1
theorem ltR (h:IsMem w P R n c ops fails):R<w.heap.size:=h.row.lt
theorem cell0 (h:IsMem w P R n c ops fails):w.cell? ⟨P,0,none⟩=some (.slice (some ⟨R,0,none⟩) n n):=by simp[World.cell?,h.head]
theorem cell1 (h:IsMem w P R n c ops fails):w.cell? ⟨P,1,none⟩=some (.int .i64 ops):=by simp[World.cell?,h.head]
theorem cell2 (h:IsMem w P R n c ops fails):w.cell? ⟨P,2,none⟩=some (.int .i64 fails):=by simp[World.cell?,h.head]
theorem free (h:IsMem w P R n c ops fails) (i:Nat):w.frozen? ⟨P,i,none⟩=false:=by simp[World.frozen?,h.head]
theorem setOps (h:IsMem w P R n c ops fails) (k:Int):IsMem (w.setCell ⟨P,1,none⟩ (.int .i64 k)) P R n c k fails:=
 ⟨by simp[World.setCell,Array.getElem?_modify,h.head],h.row.setOther (fun e=>h.ne e.symm) _,h.ne⟩
theorem setFails (h:IsMem w P R n c ops fails) (k:Int):IsMem (w.setCell ⟨P,2,none⟩ (.int .i64 k)) P R n c ops k:=
 ⟨by simp[World.setCell,Array.getElem?_modify,h.head],h.row.setOther (fun e=>h.ne e.symm) _,h.ne⟩
theorem setNum (h:IsMem w P R n c ops fails) (i:Nat) (v:Int):IsMem (w.setCell ⟨R,i,none⟩ (.int .u64 v)) P R n (upd c i v) ops fails:=
 ⟨by rw[Below.heap_setCell _ _ _ _ h.ne];exact h.head,(h.row.set i _).congr fun j _=>by by_cases e:j=i <;> simp[upd,e],h.ne⟩
theorem new (h:IsMem w P R n c ops fails) (o:Obj):IsMem (w.alloc o) P R n c ops fails:=
 ⟨by rw[Below.heap_alloc _ _ _ h.ltP];exact h.head,h.row.alloc o,h.ne⟩
theorem of_blocks {w':World}(h:IsMem w P R n c ops fails) (hP:w'.heap[P]? = w.heap[P]?) (hR:w'.heap[R]? = w.heap[R]?):IsMem w' P R n c ops fails:=
 ⟨hP.trans h.head,h.row.of_block hR,h.ne⟩
end IsMem
section
variable (P R n:Nat) (c:Nat→Int) (ops fails:Int) (w:World)
theorem load_in (i:Nat) (hi:i<n) (h:IsMem w P R n c ops fails) :
  Calls Tryz.prog 179 #[.pointer (some ⟨P,0,none⟩),.int .i64 (i:Int)] w fun e w'=>e = .returned (.int .u64 (c i))∧IsMem w' P R n c (wrap64 (ops+1)) fails∧Moved P R w w':=by
 have c0:=h.cell0;have hm:=h.setOps (wrap64 (ops+1));have c0':=hm.cell0;have r0:=hm.row.cell hi;have hne:=h.ne;go_enter Tryz.func179,Tryz.ntmps179
 go_wp2_with (first
  | (go_at_call 174;go_in)
  | (go_at_call 183;refine(count_any P 1 ops 1 _ h.cell1 (h.free 1)).mono ?_;rintro e w' ⟨rfl,rfl⟩)
  | (go_at_call 190;refine(cload_any R i _ _ r0).mono ?_;rintro e w' ⟨rfl,rfl⟩))
 go_ret
 exact⟨rfl,hm,Moved.setP _ _ _⟩
theorem store_in (i:Nat) (v:Int) (hi:i<n) (h:IsMem w P R n c ops fails) :
  Calls Tryz.prog 160 #[.pointer (some ⟨P,0,none⟩),.int .i64 (i:Int),.int .u64 v] w fun e w'=>e = .returned (.tuple #[])∧IsMem w' P R n (upd c i v) (wrap64 (ops+1)) fails∧Moved P R w w':=by
 have c0:=h.cell0;have hm:=h.setOps (wrap64 (ops+1));have c0':=hm.cell0;have r0:=hm.row.cell hi;have f0:=hm.row.frozen i;have hne:=h.ne;have hmf:∀(fn:Fn) (first cap:Array Value) (w:World),(Instr.makeFunc fn first cap).run Tryz.prog w = .ok (.func fn first cap) w:=fun _ _ _ _=>rfl
 go_enter Tryz.func160,Tryz.ntmps160
 go_wp2_with (first
  | (go_at_call 174;go_in)
  | (go_at_call 183;refine(count_any P 1 ops 1 _ h.cell1 (h.free 1)).mono ?_;rintro e w' ⟨rfl,rfl⟩)
  | (go_at_call 175;refine(put_any R i _ v _ r0 f0).mono ?_;rintro e w' ⟨rfl,rfl⟩))
 go_end0
 exact⟨rfl,hm.setNum i v,(Moved.setP _ _ _).trans (Moved.setR _ _ _)⟩
theorem cas_hit (i:Nat) (y:Int) (hi:i<n) (h:IsMem w P R n c ops fails) :
  Calls Tryz.prog 191 #[.pointer (some ⟨P,0,none⟩),.int .i64 (i:Int),.int .u64 (c i),.int .u64 y] w fun e w'=>e = .returned (.bool true)∧IsMem w' P R n (upd c i y) (wrap64 (ops+1)) fails∧Moved P R w w':=by
 have c0:=h.cell0;have hm:=h.setOps (wrap64 (ops+1));have c0':=hm.cell0;have r0:=hm.row.cell hi;have f0:=hm.row.frozen i;have hlt:=hm.ltR;have hne:=h.ne;have hmf:∀(fn:Fn) (first cap:Array Value) (w:World),(Instr.makeFunc fn first cap).run Tryz.prog w = .ok (.func fn first cap) w:=fun _ _ _ _=>rfl
 go_enter Tryz.func191,Tryz.ntmps191
 go_wp2_with (first
  | (go_at_call 199;go_in)
  | (go_at_call 183;refine(count_any P 1 ops 1 _ h.cell1 (h.free 1)).mono ?_;rintro e w' ⟨rfl,rfl⟩)
  | (go_at_call 200;refine(hit_any R i P _ y _ r0 f0 hlt).mono ?_;rintro e w' ⟨rfl,rfl⟩))
 go_ret
 exact⟨rfl,(hm.setNum i y).new _,((Moved.setP _ _ _).trans (Moved.setR _ _ _)).trans (Moved.new _ _)⟩
theorem cas_miss (i:Nat) (z y:Int) (hi:i<n) (hz:¬c i=z) (h:IsMem w P R n c ops fails) :
  Calls Tryz.prog 191 #[.pointer (some ⟨P,0,none⟩),.int .i64 (i:Int),.int .u64 z,.int .u64 y] w fun e w'=>e = .returned (.bool false)∧IsMem w' P R n c (wrap64 (ops+1)) (wrap64 (fails+1))∧Moved P R w w':=by
 have c0:=h.cell0;have hm:=h.setOps (wrap64 (ops+1));have c0':=hm.cell0;have r0:=hm.row.cell hi;have f0:=hm.row.frozen i;have hlt:=hm.ltR;have hltP:=hm.ltP;have g0:=hm.cell2;have gf:=hm.free 2;have hne:=h.ne;have hmf:∀(fn:Fn) (first cap:Array Value) (w:World),(Instr.makeFunc fn first cap).run Tryz.prog w = .ok (.func fn first cap) w:=fun _ _ _ _=>rfl
 go_enter Tryz.func191,Tryz.ntmps191
 go_wp2_with (first
  | (go_at_call 199;go_in)
  | (go_at_call 183;refine(count_any P 1 ops 1 _ h.cell1 (h.free 1)).mono ?_;rintro e w' ⟨rfl,rfl⟩)
  | (go_at_call 200;refine(miss_any R i P _ z y fails _ r0 f0 hlt hz g0 gf hltP).mono ?_;rintro e w' ⟨rfl,rfl⟩))
 go_ret
 exact⟨rfl,(hm.setFails _).new _,((Moved.setP _ _ _).trans (Moved.setP _ _ _)).trans (Moved.new _ _)⟩
theorem len_any (h:IsMem w P R n c ops fails) :
  Calls Tryz.prog 74 #[.pointer (some ⟨P,0,none⟩)] w fun e w'=>e = .returned (.int .i64 (n:Int))∧w'=w:=by
 have c0:=h.cell0;go_enter Tryz.func74,Tryz.ntmps74
 go_wp2
 go_ret
 exact⟨rfl,rfl⟩
end
structure Went (S:Nat→Prop) (w w':World):Prop where
 os:w'.os=w.os
 tape:w'.tape=w.tape
 output:w'.output=w.output
 size:w.heap.size≤w'.heap.size
 block:∀k,k<w.heap.size→¬S k→w'.heap[k]? = w.heap[k]?
namespace Went
variable {S S':Nat→Prop}{a b c w w':World}
theorem refl (S:Nat→Prop) (w:World):Went S w w:=⟨rfl,rfl,rfl,Nat.le_refl _,fun _ _ _=>rfl⟩
theorem trans (h:Went S a b) (k:Went S b c):Went S a c:=
 ⟨k.os.trans h.os,k.tape.trans h.tape,k.output.trans h.output,Nat.le_trans h.size k.size,fun i hi hs=>(k.block i (Nat.lt_of_lt_of_le hi h.size) hs).trans (h.block i hi hs)⟩
theorem wider (h:Went S a b) (k:∀i,S i→S' i):Went S' a b:=⟨h.os,h.tape,h.output,h.size,fun i hi hs=>h.block i hi fun e=>hs (k i e)⟩
theorem below {B:Nat}(h:Went S w w') (hB:B≤w.heap.size) (hS:∀i,S i→B≤i):Below B w w':=
 ⟨h.os,h.tape,h.output,h.size,fun k hk=>h.block k (by omega) fun e=>by have:=hS k e;omega⟩
theorem set {k o:Nat}(h:S k) (w:World) (v:Value):Went S w (w.setCell ⟨k,o,none⟩ v):=
 ⟨rfl,rfl,rfl,by simp[World.setCell],fun i _ hs=>Below.heap_setCell _ _ _ _ fun e=>hs (e ▸ h)⟩
theorem new (S:Nat→Prop) (w:World) (o:Obj):Went S w (w.alloc o):=⟨rfl,rfl,rfl,by simp,fun k hk _=>Below.heap_alloc _ _ _ hk⟩
theorem of_moved {P R:Nat}(h:Moved P R w w') (hP:S P) (hR:S R):Went S w w':=
 ⟨h.os,h.tape,h.output,h.size,fun k hk hs=>h.block k hk (fun e=>hs (e ▸ hP)) (fun e=>hs (e ▸ hR))⟩
theorem drew (h:Went S a b):Went S a b.drew:=⟨h.os,h.tape,h.output,h.size,h.block⟩
theorem undrew (h:Went S a.drew b):Went S a b:=⟨h.os,h.tape,h.output,h.size,h.block⟩
end Went
theorem IsMem.drew {w:World}{P R n:Nat}{c:Nat→Int}{ops fails:Int}(h:IsMem w P R n c ops fails):IsMem w.drew P R n c ops fails:=⟨h.head,h.row.drew,h.ne⟩
theorem Moved.undrew {P R:Nat}{a b:World}(h:Moved P R a.drew b):Moved P R a b:=⟨h.os,h.tape,h.output,h.size,h.block⟩
end Go.Proofs.YtnnmdkaoiofabaaGreat
namespace Go.Proofs.YtnnmdkaoiofabaaGreat
open Go Go.RowKit
theorem info63 : (Tryz.prog.info? 261).map (fun i=>(i.zero,i.size,i.bytes))=some (some (.agg #[.int .u64 0]),1,8):=by kernel_rfl
theorem make_row (n:Nat) (hn:n≤262144) (w:World) :
  (Instr.makeSlice 138 (.int .i64 (n:Int)) (.int .i64 (n:Int))).run Tryz.prog w = .ok (.slice (some ⟨w.heap.size,0,none⟩) n n) (w.alloc (.cells (madeCells #[.int .u64 0] n) 261)):=by
 obtain⟨i,hi,hzz⟩:=Option.map_eq_some_iff.1 info63;simp only[Prod.mk.injEq]at hzz;obtain⟨hz,hs,hb⟩:=hzz;have hr:=run_make (P:=Tryz.prog) w 138 261 i _ Tryz.underlying138 hi hz .i64 .i64 n n (by omega) (Int.le_refl _) (by rw[hb];omega) (by omega);have hc:(Value.agg #[.int .u64 0]).cells=#[.int .u64 0]:=by kernel_rfl
 rw[hs,Nat.mul_one,hc,Int.toNat_natCast]at hr;exact hr
def held (k:Int):Nat:=if k<0 then 0 else if 262144<k then 262144 else k.toNat
theorem new_any (k:Int) (w:World) :
  Calls Tryz.prog 35 #[.int .i64 k] w fun e w'=>e = .returned (.pointer (some ⟨w.heap.size+1,0,none⟩))∧IsMem w' (w.heap.size+1) w.heap.size (held k) (fun _=>0) 0 0∧Below w.heap.size w w'∧w'.heap.size=w.heap.size+2:=by
 have key:∀n:Nat,n≤262144→IsMem ((w.alloc (.cells (madeCells #[.int .u64 0] n) 261)).alloc (.cells #[.slice (some ⟨w.heap.size,0,none⟩) n n,.int .i64 0,.int .i64 0] 144)) (w.heap.size+1) w.heap.size n (fun _=>0) 0 0:=by
  intro n _;refine⟨?_,?_,by omega⟩
  ·rw[show w.heap.size+1=(w.alloc (.cells (madeCells #[.int .u64 0] n) 261)).heap.size by simp];exact Go.Deep.blk_alloc_new _ _
  ·exact(World.rowIs_made w (.int .u64 0) n 261).alloc _
 have bel:∀(o1 o2:Obj),Below w.heap.size w ((w.alloc o1).alloc o2):=fun o1 o2=>((Below.refl _ w).alloc (Nat.le_refl _) o1).alloc (by simp) o2
 have siz:∀(o1 o2:Obj),((w.alloc o1).alloc o2).heap.size=w.heap.size+2:=fun o1 o2=>by simp
 by_cases h1:k<0
 ·have hk:held k=0:=by simp[held,h1]
  have hmk:=make_row 0 (by omega);simp only[Int.ofNat_zero]at hmk;rw[hk];go_enter Tryz.func35,Tryz.ntmps35
  go_wp2
  go_ret
  exact⟨rfl,key 0 (by omega),bel _ _,siz _ _⟩
 ·by_cases h2:262144<k
  ·obtain⟨N,hN⟩:∃N:Nat,N=262144:=⟨_,rfl⟩
   have hk:held k=N:=by simp only[held,if_neg h1,if_pos h2,hN]
   have hmk:∀w,(Instr.makeSlice 138 (.int .i64 262144) (.int .i64 262144)).run Tryz.prog w = .ok (.slice (some ⟨w.heap.size,0,none⟩) N N) (w.alloc (.cells (madeCells #[.int .u64 0] N) 261)):=by
    intro w;have h:=make_row N (by omega) w;rw[show (N:Int)=262144 by omega]at h;exact h
   have hn:N≤262144:=by omega
   rw[hk];clear hk hN;go_enter Tryz.func35,Tryz.ntmps35
   go_wp2
   go_ret
   exact⟨rfl,key N hn,bel _ _,siz _ _⟩
  ·obtain⟨n,rfl⟩:∃n:Nat,k=(n:Int):=⟨k.toNat,by omega⟩
   have hk:held (n:Int)=n:=by simp only[held];rw[if_neg (by omega),if_neg (by omega)];omega
   have hmk:=make_row n (by omega);have hn:n≤262144:=by omega
   rw[hk];clear hk;go_enter Tryz.func35,Tryz.ntmps35
   go_wp2
   go_ret
   exact⟨rfl,key n hn,bel _ _,siz _ _⟩
end Go.Proofs.YtnnmdkaoiofabaaGreat
namespace Go.Proofs.YtnnmdkaoiofabaaGreat
open Go Go.RowKit
def fo (x:Nat):Nat:=x ^^^ x / 8589934592
def mx (x:Nat):Nat:=fo (fo (fo x*18397679294719823053 % 18446744073709551616)*14181476777654086739 % 18446744073709551616)
def mixZ (x:Int):Int:=((mx x.toNat:Nat):Int)
def home (k:Int) (n:Nat):Nat:=mx k.toNat % n
theorem home_lt (k:Int){n:Nat}(h:1≤n):home k n<n:=Nat.mod_lt _ h
theorem fo_lt (x:Nat) (h:x<18446744073709551616):fo x<18446744073709551616:=
 Nat.xor_lt_two_pow (n:=64) h (Nat.lt_of_le_of_lt (Nat.div_le_self _ _) h)
theorem mx_lt (x:Nat):mx x<18446744073709551616:=fo_lt _ (Nat.mod_lt _ (by decide))
theorem mixZ_lo (x:Int):0≤mixZ x:=Int.natCast_nonneg _
theorem mixZ_hi (x:Int):mixZ x≤18446744073709551615:=by have:=mx_lt x.toNat;unfold mixZ;omega
theorem mul_form (n c:Nat):IntKind.u64.wrap ((n:Int)*(c:Int))=((n*c % 18446744073709551616:Nat):Int):=by
 rw[IntKind.wrap_u64,Int.natCast_emod,Int.natCast_mul];rfl
theorem fold_form' (n:Nat) (h:n<18446744073709551616):bits .xor .u64 (n:Int) ((n:Int) / 8589934592)=((fo n:Nat):Int):=xorShift_u64 n 8589934592 h
theorem mix_form (x:Int) (h0:0≤x) (h1:x≤18446744073709551615) :
  bits .xor .u64 (IntKind.u64.wrap (bits .xor .u64 (IntKind.u64.wrap (bits .xor .u64 x (x / 8589934592)*18397679294719823053)) (IntKind.u64.wrap (bits .xor .u64 x (x / 8589934592)*18397679294719823053) / 8589934592)*14181476777654086739))
   (IntKind.u64.wrap (bits .xor .u64 (IntKind.u64.wrap (bits .xor .u64 x (x / 8589934592)*18397679294719823053)) (IntKind.u64.wrap (bits .xor .u64 x (x / 8589934592)*18397679294719823053) / 8589934592)*14181476777654086739) / 8589934592)=mixZ x:=by
 have p:(0:Nat)<18446744073709551616:=by decide
 obtain⟨n,rfl⟩:=Int.eq_ofNat_of_zero_le h0;have e1:=mul_form (fo n) 18397679294719823053;have e2:=mul_form (fo (fo n*18397679294719823053 % 18446744073709551616)) 14181476777654086739;simp only[Int.cast_ofNat_Int]at e1 e2;rw[fold_form' n (by omega),e1,fold_form' _ (Nat.mod_lt _ p),e2,fold_form' _ (Nat.mod_lt _ p)];rfl
theorem mix_any (x:Int) (w:World) (h0:0≤x) (h1:x≤18446744073709551615) :
  Calls Tryz.prog 177 #[.int .u64 x] w fun e w'=>e = .returned (.int .u64 (mixZ x))∧w'=w:=by
 rw[← mix_form x h0 h1];go_enter Tryz.func177,Tryz.ntmps177
 go_wp2
 go_ret
 exact⟨rfl,rfl⟩
theorem home_any (x:Int) (n:Nat) (w:World) (h0:0≤x) (h1:x≤18446744073709551615) (h2:1≤n) (h3:n≤262144) :
  Calls Tryz.prog 162 #[.int .u64 x,.int .i64 (n:Int)] w fun e w'=>e = .returned (.int .i64 ((home x n:Nat):Int))∧w'=w:=by
 have m0:=mixZ_lo x;have m1:=mixZ_hi x;have hs:¬(n:Int)<1:=by omega
 have r2:mixZ x % (n:Int)=((home x n:Nat):Int):=by simp[home,mixZ]
 have r0:0≤mixZ x % (n:Int):=Int.emod_nonneg _ (by omega);have r1:mixZ x % (n:Int)<n:=Int.emod_lt_of_pos _ (by omega);rw[← r2];clear r2;go_enter Tryz.func162,Tryz.ntmps162
 go_wp2_with (go_at_call 177;refine(mix_any _ _ (by omega) (by omega)).mono ?_;rintro e w' ⟨rfl,rfl⟩)
 go_ret
 exact⟨rfl,rfl⟩
end Go.Proofs.YtnnmdkaoiofabaaGreat
namespace Go.Proofs.YtnnmdkaoiofabaaGreat
open Go Go.RowKit
def nodeZ (l a b:Int):Int:=l*72057594037927936+a % 268435456*268435456+b % 268435456
theorem nat_m28 (n:Nat):n &&& 268435455=n % 268435456:=Nat.and_two_pow_sub_one_eq_mod n 28
theorem and28_u32 (a:Int) (h0:0≤a) (h1:a≤4294967295):bits .and .u32 a 268435455=a % 268435456:=by
 obtain⟨n,rfl⟩:=Int.eq_ofNat_of_zero_le h0;rw[show (268435455:Int)=((268435455:Nat):Int)from rfl,u32_and_nat n 268435455 (by omega) (by decide),nat_m28];omega
theorem and28_u64 (a:Int) (h0:0≤a) (h1:a≤18446744073709551615):bits .and .u64 a 268435455=a % 268435456:=by
 obtain⟨n,rfl⟩:=Int.eq_ofNat_of_zero_le h0;rw[show (268435455:Int)=((268435455:Nat):Int)from rfl,u64_and_nat n 268435455 (by omega) (by decide),nat_m28];omega
theorem wraps_u64 (n:Int) (h₀:0≤n) (h₁:n<2^64):IntKind.u64.wrap n=n:=by rw[IntKind.wrap_u64];omega
theorem node_form (l a b:Int) (h0:0≤l∧l≤255) (h1:0≤a∧a≤4294967295) (h2:0≤b∧b≤4294967295) :
  bits .or .u64 (bits .or .u64 (l*72057594037927936) (IntKind.u64.wrap (IntKind.u64.wrap (bits .and .u32 a 268435455)*268435456))) (IntKind.u64.wrap (bits .and .u32 b 268435455))=nodeZ l a b:=by
 rw[and28_u32 a h1.1 h1.2,and28_u32 b h2.1 h2.2,wraps_u64 (a % 268435456) (by omega) (by omega),wraps_u64 (b % 268435456) (by omega) (by omega),wraps_u64 _ (by omega) (by omega)];rw[bits_join .u64 64 (by decide) wraps_u64 56 (l*72057594037927936) (a % 268435456*268435456) (by omega) (by omega) (by omega) (by omega) (by omega) (by omega)];rw[bits_join .u64 64 (by decide) wraps_u64 28 _ (b % 268435456) (by omega) (by omega) (by omega) (by omega) (by omega) (by omega)];rfl
theorem nodeZ_bd (l a b:Int) (h0:0≤l∧l≤255):0≤nodeZ l a b∧nodeZ l a b≤18446744073709551615:=by unfold nodeZ;omega
theorem part0 (l a b:Int):nodeZ l a b / 72057594037927936=l:=by unfold nodeZ;omega
theorem part1 (l a b:Int):nodeZ l a b / 268435456 % 268435456=a % 268435456:=by unfold nodeZ;omega
theorem part2 (l a b:Int):nodeZ l a b % 268435456=b % 268435456:=by unfold nodeZ;omega
theorem nodeZ_inj {l a b l' a' b':Nat}(h1:a<268435456) (h2:b<268435456) (h3:a'<268435456) (h4:b'<268435456) (e:nodeZ (l:Int) a b=nodeZ (l':Int) a' b'):l=l'∧a=a'∧b=b':=by
 have e0:=part0 l a b;have e1:=part1 l a b;have e2:=part2 l a b;rw[e,part0]at e0;rw[e,part1]at e1;rw[e,part2]at e2;omega
theorem nodeZ_pos {l a b:Nat}(h1:a<268435456) (h2:b<268435456) (h:a≠b):0<nodeZ (l:Int) a b:=by unfold nodeZ;omega
theorem bnode_any (l a b:Int) (w:World) (h0:0≤l∧l≤255) (h1:0≤a∧a≤4294967295) (h2:0≤b∧b≤4294967295) :
  Calls Tryz.prog 101 #[.int .u8 l,.int .u32 a,.int .u32 b] w fun e w'=>e = .returned (.int .u64 (nodeZ l a b))∧w'=w:=by
 rw[← node_form l a b h0 h1 h2];go_enter Tryz.func101,Tryz.ntmps101
 go_wp2
 go_ret
 exact⟨rfl,rfl⟩
theorem bparts_any (x:Int) (w:World) (h0:0≤x) (h1:x≤18446744073709551615) :
  Calls Tryz.prog 112 #[.int .u64 x] w fun e w'=>e = .returned (.tuple #[.int .u8 (x / 72057594037927936),.int .u32 (x / 268435456 % 268435456),.int .u32 (x % 268435456)])∧w'=w:=by
 have e1:bits .and .u64 (x / 268435456) 268435455 % 4294967296=x / 268435456 % 268435456:=by rw[and28_u64 _ (by omega) (by omega)];omega
 have e2:bits .and .u64 x 268435455 % 4294967296=x % 268435456:=by rw[and28_u64 _ (by omega) (by omega)];omega
 rw[← e1,← e2];clear e1 e2;go_enter Tryz.func112,Tryz.ntmps112
 go_wp2
 go_ret3
 exact⟨rfl,rfl⟩
end Go.Proofs.YtnnmdkaoiofabaaGreat
namespace Go.Proofs.YtnnmdkaoiofabaaGreat
open Go Go.RowKit
theorem add_u64 (x y:Int) (w:World):(Op.intArith .add .u64 x y).run Tryz.prog w = .ok (.int .u64 (IntKind.u64.wrap (x+y))) w:=by
 simp[go_sem]
theorem cadd_any (b o:Nat) (x y:Int) (w:World) (hc:w.cell? ⟨b,o,none⟩=some (.int .u64 x)) (hf:w.frozen? ⟨b,o,none⟩=false) :
  Calls Tryz.prog 185 #[.pointer (some ⟨b,o,none⟩),.int .u64 y] w fun e w'=>e = .returned (.int .u64 (IntKind.u64.wrap (x+y)))∧w'=w.setCell ⟨b,o,none⟩ (.int .u64 (IntKind.u64.wrap (x+y))):=by
 have h:=run_call_add (P:=Tryz.prog) Tryz.func195 (by kernel_rfl) (by kernel_rfl) (by kernel_rfl) .u64 (by kernel_rfl) hc hf (add_u64 x y w);go_enter Tryz.func185,Tryz.ntmps185
 go_wp2
 go_ret
 exact⟨rfl,rfl⟩
theorem addw_any (b o:Nat) (x y:Int) (w:World) (hc:w.cell? ⟨b,o,none⟩=some (.int .u64 x)) (hf:w.frozen? ⟨b,o,none⟩=false) :
  Calls Tryz.prog 176 #[.int .u64 y,.pointer (some ⟨b,o,none⟩)] w fun e w'=>e = .returned (.int .u64 (IntKind.u64.wrap (x+y)))∧w'=w.setCell ⟨b,o,none⟩ (.int .u64 (IntKind.u64.wrap (x+y))):=by
 go_enter Tryz.func176,Tryz.ntmps176
 go_wp2_with (go_at_call 185;refine(cadd_any b o x y w hc hf).mono ?_;rintro e w' ⟨rfl,rfl⟩)
 go_ret
 exact⟨rfl,rfl⟩
section
variable (P R n:Nat) (c:Nat→Int) (ops fails:Int) (w:World)
theorem add_in (i:Nat) (v:Int) (hi:i<n) (h:IsMem w P R n c ops fails) :
  Calls Tryz.prog 161 #[.pointer (some ⟨P,0,none⟩),.int .i64 (i:Int),.int .u64 v] w fun e w'=>e = .returned (.int .u64 (IntKind.u64.wrap (c i+v)))∧IsMem w' P R n (upd c i (IntKind.u64.wrap (c i+v))) (wrap64 (ops+1)) fails∧Moved P R w w':=by
 have c0:=h.cell0;have hm:=h.setOps (wrap64 (ops+1));have c0':=hm.cell0;have r0:=hm.row.cell hi;have f0:=hm.row.frozen i;have hne:=h.ne;have hmf:∀(fn:Fn) (first cap:Array Value) (w:World),(Instr.makeFunc fn first cap).run Tryz.prog w = .ok (.func fn first cap) w:=fun _ _ _ _=>rfl
 go_enter Tryz.func161,Tryz.ntmps161
 go_wp2_with (first
  | (go_at_call 174;go_in)
  | (go_at_call 183;refine(count_any P 1 ops 1 _ h.cell1 (h.free 1)).mono ?_;rintro e w' ⟨rfl,rfl⟩)
  | (go_at_call 176;refine(addw_any R i _ v _ r0 f0).mono ?_;rintro e w' ⟨rfl,rfl⟩))
 go_ret
 exact⟨rfl,hm.setNum i _,(Moved.setP _ _ _).trans (Moved.setR _ _ _)⟩
end
end Go.Proofs.YtnnmdkaoiofabaaGreat
