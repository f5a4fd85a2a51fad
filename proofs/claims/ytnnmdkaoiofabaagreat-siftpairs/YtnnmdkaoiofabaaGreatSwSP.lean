/-
  Set of package order: what is each variable once, and what isn't. A store brought into an order, without a program: which levels change, and how often. A store brought into an order (To).
-/
import Derived.Test.YtnnmdkaoiofabaaGreatBaseS
import Derived.Test.YtnnmdkaoiofabaaGreatSwMN
namespace Go.Proofs.YtnnmdkaoiofabaaGreat.Od
open Go Go.RowKit
def IntsAt (w:World) (ad:Option Addr) (n:Nat) (Z:Nat→Int):Prop:=
 n=0∨∃ b off,ad=some ⟨b,off,none⟩∧b<w.heap.size∧∀ i,i<n→w.cell? ⟨b,off+i,none⟩=some (.int .i64 (Z i))
theorem IntsAt.kept {w w':World} {ad:Option Addr} {n:Nat} {Z:Nat→Int} (h:IntsAt w ad n Z) (hs:w.heap.size≤w'.heap.size) (k:∀ a,ad=some a→a.block<w.heap.size→w'.heap[a.block]? = w.heap[a.block]?):IntsAt w' ad n Z:=by
 rcases h with h|⟨b,off,rfl,hb,hc⟩
 ·exact .inl h
 ·exact .inr ⟨b,off,rfl,Nat.lt_of_lt_of_le hb hs,fun i hi=>(World.cell?_of_block (a:=⟨b,off+i,none⟩) (k ⟨b,off,none⟩ rfl hb)).trans (hc i hi)⟩
theorem IntsAt.below {w w':World} {ad:Option Addr} {n:Nat} {Z:Nat→Int} (h:IntsAt w ad n Z) (k:Below w.heap.size w w'):IntsAt w' ad n Z:=
 h.kept k.size fun _ _ hb=>k.block _ hb
theorem IntsAt.new {w:World} {ad:Option Addr} {n:Nat} {Z:Nat→Int} (h:IntsAt w ad n Z) (o:Obj):IntsAt (w.alloc o) ad n Z:=
 h.kept (by simp) fun _ _ hb=>Below.heap_alloc _ _ _ hb
theorem IntsAt.row {w:World} {b n:Nat} {t:TypeId} {Z:Nat→Int} (h:w.rowIs b t n (fun i=>.int .i64 (Z i))):IntsAt w (some ⟨b,0,none⟩) n Z:=
 .inr ⟨b,0,rfl,h.lt,fun i hi=>by rw [Nat.zero_add];exact h.cell hi⟩
theorem IntsAt.congr {w:World} {ad:Option Addr} {n:Nat} {Z Y:Nat→Int} (h:IntsAt w ad n Z) (e:∀ i,i<n→Z i=Y i):IntsAt w ad n Y:=by
 rcases h with h|⟨b,off,rfl,hb,hc⟩
 ·exact .inl h
 ·exact .inr ⟨b,off,rfl,hb,fun i hi=>by rw [← e i hi];exact hc i hi⟩
def seenB (Z:Nat→Int):Nat→Nat→Bool
 | 0,_=>false
 | i+1,x=>seenB Z i x || decide (Z i=(x:Int))
def okAt (n:Nat) (Z:Nat→Int) (i:Nat):Bool:=decide (0≤Z i) && (decide (Z i<(n:Int)) && !seenB Z i (Z i).toNat)
def okUpto (n:Nat) (Z:Nat→Int):Nat→Bool
 | 0=>true
 | i+1=>okUpto n Z i && okAt n Z i
def setV (v:Nat→Nat) (Z:Nat→Int):Nat→Nat→Nat
 | 0=>v
 | i+1=>upd (setV v Z i) i (Z i).toNat
def setL (l:Nat→Nat) (Z:Nat→Int):Nat→Nat→Nat
 | 0=>l
 | i+1=>upd (setL l Z i) (Z i).toNat i
end Go.Proofs.YtnnmdkaoiofabaaGreat.Od
namespace Go.Proofs.YtnnmdkaoiofabaaGreat.Sw
open Go Go.RowKit
structure Kept (M M':Mdl):Prop where
 n:M'.n=M.n
 room:M'.room=M.room
 node:∀ x,M.isNode x→M'.isNode x
 val:∀ x,M.isNode x→∀ s,M'.val x s=M.val x s
theorem Plan.kept {M M':Mdl} {k:Nat} (p:Plan M k M') (o:M.Ok):Kept M M':=
 ⟨p.n,p.room,fun _ hx=>hx.imp id fun e=>p.keep _ e,fun _ hx s=>p.val o hx s⟩
theorem Kept.tbl {M M':Mdl} (h:Kept M M') {x:Nat} (hx:M.isNode x):M'.tbl x=M.tbl x:=funext fun _=>h.val x hx _
theorem surj_of_inj {n:Nat} {v:Nat→Nat} (lt:∀ i,i<n→v i<n) (inj:∀ i j,i<n→j<n→v i=v j→i=j) {u:Nat} (hu:u<n):∃ i,i<n∧v i=u:=by
 by_cases c:u∈(List.range n).map v
 ·obtain ⟨i,hi,e⟩:=List.mem_map.1 c
  exact ⟨i,List.mem_range.1 hi,e⟩
 ·exfalso
  have nd:((List.range n).map v).Nodup:=nodup_map_on v _ List.nodup_range fun _ hx _ hy e=>inj _ _ (List.mem_range.1 hx) (List.mem_range.1 hy) e
  have:=nodup_le (u :: (List.range n).map v) (List.range n) (List.nodup_cons.2 ⟨c,nd⟩) fun x hx=>by
   rcases List.mem_cons.1 hx with rfl|hx
   ·exact List.mem_range.2 hu
   ·obtain ⟨i,hi,e⟩:=List.mem_map.1 hx
    rw [← e]
    exact List.mem_range.2 (lt i (List.mem_range.1 hi))
  simp at this
  omega
def posN (v:Nat→Nat) (x:Nat):Nat→Nat
 | 0=>0
 | n+1=>if v n=x then n else posN v x n
theorem posN_of {v:Nat→Nat} {i:Nat}:∀ {n:Nat},(∀ a b,a<n→b<n→v a=v b→a=b)→i<n→posN v (v i) n=i
 | 0,_,hi=>absurd hi (Nat.not_lt_zero _)
 | n+1,inj,hi=>by
  rw [posN]
  by_cases e:v n=v i
  ·rw [if_pos e];exact inj n i (by omega) hi e
  ·rw [if_neg e]
   have:i≠n:=fun q=>e (by rw [q])
   exact posN_of (fun a b ha hb=>inj a b (by omega) (by omega)) (by omega)
end Go.Proofs.YtnnmdkaoiofabaaGreat.Sw
