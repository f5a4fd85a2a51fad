/-
  Set of package order: what is each variable once, and what isn't. A store brought into an order, without a program: which levels change, and how often. A store brought into an order (To).
-/
import Derived.Test.YtnnmdkaoiofabaaGreatBaseS
import Derived.Test.YtnnmdkaoiofabaaGreatSwMN
namespace Go.Proofs.YtnnmdkaoiofabaaGreat.Od
open Go Go.RowKit
def IntsAt (w:World) (ad:Option Addr) (n:Nat) (Z:Nat→Int):Prop:=
 n=0∨∃b off,ad=some ⟨b,off,none⟩∧b<w.heap.size∧∀i,i<n→w.cell? ⟨b,off+i,none⟩=some (.int .i64 (Z i))
theorem IntsAt.kept {w w':World}{ad:Option Addr}{n:Nat}{Z:Nat→Int}(h:IntsAt w ad n Z) (hs:w.heap.size≤w'.heap.size) (k:∀a,ad=some a→a.block<w.heap.size→w'.heap[a.block]? = w.heap[a.block]?):IntsAt w' ad n Z:=by
 rcases h with h|⟨b,off,rfl,hb,hc⟩
 ·exact .inl h
 ·exact .inr ⟨b,off,rfl,Nat.lt_of_lt_of_le hb hs,fun i hi=>(World.cell?_of_block (a:=⟨b,off+i,none⟩) (k ⟨b,off,none⟩ rfl hb)).trans (hc i hi)⟩
theorem IntsAt.below {w w':World}{ad:Option Addr}{n:Nat}{Z:Nat→Int}(h:IntsAt w ad n Z) (k:Below w.heap.size w w'):IntsAt w' ad n Z:=
 h.kept k.size fun _ _ hb=>k.block _ hb
theorem IntsAt.moved {w w':World}{ad:Option Addr}{n P:Nat}{Z:Nat→Int}(h:IntsAt w ad n Z) (k:Moved P w w') (hP:∀a,ad=some a→a.block≠P):IntsAt w' ad n Z:=
 h.kept k.size fun a ha hb=>k.block _ hb (hP a ha)
theorem IntsAt.new {w:World}{ad:Option Addr}{n:Nat}{Z:Nat→Int}(h:IntsAt w ad n Z) (o:Obj):IntsAt (w.alloc o) ad n Z:=
 h.kept (by simp) fun _ _ hb=>Below.heap_alloc _ _ _ hb
theorem IntsAt.row {w:World}{b n:Nat}{t:TypeId}{Z:Nat→Int}(h:w.rowIs b t n (fun i=>.int .i64 (Z i))):IntsAt w (some ⟨b,0,none⟩) n Z:=
 .inr ⟨b,0,rfl,h.lt,fun i hi=>by rw[Nat.zero_add];exact h.cell hi⟩
theorem IntsAt.congr {w:World}{ad:Option Addr}{n:Nat}{Z Y:Nat→Int}(h:IntsAt w ad n Z) (e:∀i,i<n→Z i=Y i):IntsAt w ad n Y:=by
 rcases h with h|⟨b,off,rfl,hb,hc⟩
 ·exact .inl h
 ·exact .inr ⟨b,off,rfl,hb,fun i hi=>by rw[← e i hi];exact hc i hi⟩
def seenB (Z:Nat→Int):Nat→Nat→Bool
 | 0,_=>false
 | i+1,x=>seenB Z i x || decide (Z i=(x:Int))
def okAt (n:Nat) (Z:Nat→Int) (i:Nat):Bool:=decide (0≤Z i) && (decide (Z i<(n:Int)) && !seenB Z i (Z i).toNat)
def okUpto (n:Nat) (Z:Nat→Int):Nat→Bool
 | 0=>true
 | i+1=>okUpto n Z i && okAt n Z i
def permB (len:Nat) (Z:Nat→Int) (n:Nat):Bool:=decide (len=n) && okUpto n Z n
theorem okAt_neg {n i:Nat}{Z:Nat→Int}(h:Z i<0):okAt n Z i=false:=by
 have:decide (0≤Z i)=false:=by simp;omega
 rw[okAt,this];rfl
theorem okAt_big {n i:Nat}{Z:Nat→Int}(h:(n:Int)≤Z i):okAt n Z i=false:=by
 have:decide (Z i<(n:Int))=false:=by simp;omega
 rw[okAt,this];simp
theorem okAt_seen {n i z:Nat}{Z:Nat→Int}(hz:Z i=(z:Int)) (h:seenB Z i z=true):okAt n Z i=false:=by
 rw[okAt,hz,Int.toNat_natCast,h];simp
theorem okAt_ok {n i z:Nat}{Z:Nat→Int}(hz:Z i=(z:Int)) (hn:z<n) (h:seenB Z i z=false):okAt n Z i=true:=by
 rw[okAt,hz,Int.toNat_natCast,h];simp;omega
theorem okUpto_get {n:Nat}{Z:Nat→Int}:∀{k:Nat},okUpto n Z k=true→∀i,i<k→okAt n Z i=true
 | 0,_,i,hi=>absurd hi (Nat.not_lt_zero _)
 | k+1,h,i,hi=>by
  rw[okUpto,Bool.and_eq_true]at h;by_cases e:i=k
  ·rw[e];exact h.2
  ·exact okUpto_get h.1 i (by omega)
theorem okUpto_false {n:Nat}{Z:Nat→Int}{k i:Nat}(hi:i<k) (h:okAt n Z i=false):okUpto n Z k=false:=by
 cases e:okUpto n Z k with
 | false=>rfl
 | true=>rw[okUpto_get e i hi]at h;cases h
theorem permB_false {n:Nat}{Z:Nat→Int}{i:Nat}(hi:i<n) (h:okAt n Z i=false):permB n Z n=false:=by
 rw[permB,okUpto_false hi h];simp
theorem seenB_iff {Z:Nat→Int}:∀{i x:Nat},seenB Z i x=true↔∃j,j<i∧Z j=(x:Int)
 | 0,x=>by simp[seenB]
 | i+1,x=>by
  rw[seenB,Bool.or_eq_true,seenB_iff,decide_eq_true_eq];constructor
  ·rintro(⟨j,hj,e⟩|e)
   ·exact⟨j,by omega,e⟩
   ·exact⟨i,by omega,e⟩
  ·rintro⟨j,hj,e⟩;by_cases h:j=i
   ·subst h;exact .inr e
   ·exact .inl ⟨j,by omega,e⟩
theorem permB_spec {len n:Nat}{Z:Nat→Int}(h:permB len Z n=true):len=n∧(∀i,i<n→0≤Z i∧Z i<(n:Int))∧∀i j,i<n→j<i→Z j≠Z i:=by
 rw[permB,Bool.and_eq_true,decide_eq_true_eq]at h;have g:=fun i hi=>okUpto_get h.2 i hi
 have g1:∀i,i<n→0≤Z i∧Z i<(n:Int)∧seenB Z i (Z i).toNat=false:=fun i hi=>by
  have:=g i hi;simp only[okAt,Bool.and_eq_true,decide_eq_true_eq,Bool.not_eq_true']at this;exact this
 refine⟨h.1,fun i hi=>⟨(g1 i hi).1,(g1 i hi).2.1⟩,fun i j hi hj e=>?_⟩;have:=(g1 i hi).2.2;have h2:seenB Z i (Z i).toNat=true:=seenB_iff.2 ⟨j,hj,by rw[e];have:=(g1 i hi).1;omega⟩;rw[this]at h2;cases h2
theorem seen_set {w:World}{S i z:Nat}{Z:Nat→Int}(h:w.rowIs S 71 8 (fun x=>.bool (seenB Z i x))) (hz:Z i=(z:Int)) :
  (w.setCell ⟨S,z,none⟩ (.bool true)).rowIs S 71 8 (fun x=>.bool (seenB Z (i+1) x)):=
 (h.set z _).congr fun j _=>by
  by_cases e:j=z
  ·subst e;simp[seenB,hz]
  ·have:¬Z i=(j:Int):=by rw[hz];omega
   simp[seenB,e,this]
theorem seen_start (w:World) (Z:Nat→Int):(w.alloc (.cells #[.bool false,.bool false,.bool false,.bool false,.bool false,.bool false,.bool false,.bool false] 71)).rowIs w.heap.size 71 8 (fun x=>.bool (seenB Z 0 x)):=
 World.rowIs_alloc w #[.bool false,.bool false,.bool false,.bool false,.bool false,.bool false,.bool false,.bool false] 71 _ fun i hi=>by
  have:i=0∨i=1∨i=2∨i=3∨i=4∨i=5∨i=6∨i=7:=by simp at hi;omega
  rcases this with rfl|rfl|rfl|rfl|rfl|rfl|rfl|rfl <;> rfl
set_option maxHeartbeats 800000 in
theorem each_any {w:World}{P n:Nat}{v l:Nat→Nat}(h:IsOrd w P n v l){ad:Option Addr}{len c:Nat}{Z:Nat→Int}(hz:IntsAt w ad len Z) (hn:n≤8) :
  Calls Tryz.prog 78 #[.pointer (some ⟨P,0,none⟩),.slice ad len c] w fun e w'=>e = .returned (.bool (permB len Z n))∧Below w.heap.size w w':=by
 have c0:=h.cell0;by_cases hnm:len=n
 ·subst hnm;go_enter Tryz.func78,Tryz.ntmps78
  go_wp2_with fail
  go_loopg [17] len (fun g si wr=>∃j:Nat,j+g=len∧si = .int .i64 (j:Int)∧okUpto len Z j=true∧Below w.heap.size w wr∧wr.rowIs w.heap.size 71 8 (fun x=>.bool (seenB Z j x)))
  case atStart=>exact⟨0,by omega,rfl,rfl,(Below.refl _ w).alloc (Nat.le_refl _) _,seen_start w Z⟩
  case round =>
   obtain⟨j,hj,rfl,he,hb,hr⟩:=hrel;have hJ:Aside (j+gk=len):=hj;have hE:Aside (okUpto len Z j=true):=he;have ho:=h.below hb;clear he;by_cases hlt:j<len
   ·have hlt':(j:Int)<(len:Int):=by omega
    rcases hz with hz|⟨b1,o1,rfl,hb1,hc1⟩
    ·omega
    have k1:wr.cell? ⟨b1,o1+j,none⟩=some (.int .i64 (Z j)):=by rw[hb.cell hb1];exact hc1 j hlt
    by_cases h0:Z j<0∨(len:Int)≤Z j
    ·have hF:Aside (permB len Z len=false):=permB_false hlt (by rcases h0 with h0|h0;exact okAt_neg h0;exact okAt_big h0);have H:=has_out ho (Z j) h0;generalize Z j=z at k1 H;clear hj h0
     go_wp2_with (go_at_call 79;refine H.mono ?_;clear H;rintro e w' ⟨rfl,rfl⟩)
     go_ret
     rw[hF.out];exact⟨rfl,hb⟩
    ·obtain⟨z,hzz⟩:∃z:Nat,Z j=(z:Int):=⟨(Z j).toNat,by omega⟩
     have hz8:z<8:=by omega
     have hz8':(z:Int)<8:=by omega
     have H:=has_in ho z (by omega);have k2:wr.cell? ⟨w.heap.size,z,none⟩=some (.bool (seenB Z j z)):=hr.cell hz8;have f2:=hr.frozen z;have hr2:Aside ((wr.setCell ⟨w.heap.size,z,none⟩ (.bool true)).rowIs w.heap.size 71 8 (fun x=>.bool (seenB Z (j+1) x))):=seen_set hr hzz;rw[hzz]at k1;by_cases hsn:seenB Z j z=true
     ·have hF:Aside (permB len Z len=false):=permB_false hlt (okAt_seen hzz hsn);rw[hsn]at k2;clear hj hzz h0 hsn
      go_wp2_with (go_at_call 79;refine H.mono ?_;clear H;rintro e w' ⟨rfl,rfl⟩)
      go_ret
      rw[hF.out];exact⟨rfl,hb⟩
     ·have hsn':seenB Z j z=false:=by simpa using hsn
      have hE':Aside (okUpto len Z (j+1)=true):=by
       simp only[Aside,okUpto];rw[hE.out,okAt_ok hzz (by omega) hsn'];rfl
      rw[hsn']at k2;clear hj hzz h0 hsn hsn'
      go_wp2_with (go_at_call 79;refine H.mono ?_;clear H;rintro e w' ⟨rfl,rfl⟩)
      go_roundg (gk-1)
      case measure=>have:=hJ.out;omega
      case rel =>
       have hj:=hJ.out;exact⟨j+1,by omega,by go_num,hE'.out,hb.setCell (Nat.le_refl _) _,hr2.out⟩
   ·obtain rfl:j=len:=by omega
    clear hj
    go_wp2_with fail
    go_ret
    rw[permB,hE.out];exact⟨by simp,hb⟩
 ·have hd:Aside (permB len Z n=false):=by simp[Aside,permB,hnm]
  have hnm':¬(len:Int)=(n:Int):=by omega
  go_enter Tryz.func78,Tryz.ntmps78
  go_wp2_with fail
  go_ret
  rw[hd.out];exact⟨rfl,Below.refl _ _⟩
def setV (v:Nat→Nat) (Z:Nat→Int):Nat→Nat→Nat
 | 0=>v
 | i+1=>upd (setV v Z i) i (Z i).toNat
def setL (l:Nat→Nat) (Z:Nat→Int):Nat→Nat→Nat
 | 0=>l
 | i+1=>upd (setL l Z i) (Z i).toNat i
set_option maxHeartbeats 800000 in
theorem set_ok {w:World}{P n:Nat}{v l:Nat→Nat}(h:IsOrd w P n v l){ad:Option Addr}{len c:Nat}{Z:Nat→Int}(hz:IntsAt w ad len Z) (hn:n≤8) (hP:∀a,ad=some a→a.block≠P) (hp:permB len Z n=true) :
  Calls Tryz.prog 42 #[.pointer (some ⟨P,0,none⟩),.slice ad len c] w fun e w'=>e = .returned (.int .i64 0)∧IsOrd w' P n (setV v Z n) (setL l Z n)∧Moved P w w':=by
 obtain⟨hlen,hrange,_⟩:=permB_spec hp;subst hlen;have H:=each_any h hz hn (c:=c);rw[hp]at H;clear hp;go_enter Tryz.func42,Tryz.ntmps42
 go_wp2_with (go_at_call 78;refine H.mono ?_;clear H;rintro e w1 ⟨rfl,b1⟩)
 go_loopg [13] len (fun g si wr=>∃j:Nat,j+g=len∧si = .int .i64 (j:Int)∧IsOrd wr P len (setV v Z j) (setL l Z j)∧Moved P w wr)
 case atStart=>exact⟨0,by omega,rfl,h.below b1,Moved.of_below b1⟩
 case round =>
  obtain⟨j,hj,rfl,ho,hm⟩:=hrel;have hJ:Aside (j+gk=len):=hj;by_cases hlt:j<len
  ·have hlt':(j:Int)<(len:Int):=by omega
   have hzr:=hz.moved hm hP;rcases hzr with hz0|⟨b1,o1,rfl,hb1,hc1⟩
   ·omega
   have k1:wr.cell? ⟨b1,o1+j,none⟩=some (.int .i64 (Z j)):=hc1 j hlt;have hr:=hrange j hlt;obtain⟨z,hzz⟩:∃z:Nat,Z j=(z:Int):=⟨(Z j).toNat,by omega⟩
   have hS:Aside ((Z j).toNat=z):=by simp only[Aside];omega
   have H:=put_any ho j z (by omega) (by omega);rw[hzz]at k1;clear hj hzz hr hc1
   go_wp2_with (go_at_call 75;refine H.mono ?_;clear H;rintro e w2 ⟨rfl,o2,m2⟩)
   go_roundg (gk-1)
   case measure=>have:=hJ.out;omega
   case rel =>
    have hj:=hJ.out;refine⟨j+1,by omega,by go_num,?_,hm.trans m2⟩;rw[setV,setL,hS.out];exact o2
  ·obtain rfl:j=len:=by omega
   clear hj
   go_wp2_with fail
   go_ret
   exact⟨rfl,ho,hm⟩
end Go.Proofs.YtnnmdkaoiofabaaGreat.Od
namespace Go.Proofs.YtnnmdkaoiofabaaGreat.Sw
open Go Go.RowKit
structure Kept (M M':Mdl):Prop where
 n:M'.n=M.n
 room:M'.room=M.room
 node:∀x,M.isNode x→M'.isNode x
 val:∀x,M.isNode x→∀s,M'.val x s=M.val x s
theorem Kept.refl (M:Mdl):Kept M M:=⟨rfl,rfl,fun _ h=>h,fun _ _ _=>rfl⟩
theorem Kept.trans {M M' M'':Mdl}(h:Kept M M') (k:Kept M' M''):Kept M M'':=
 ⟨k.n.trans h.n,k.room.trans h.room,fun x hx=>k.node x (h.node x hx),fun x hx s=>(k.val x (h.node x hx) s).trans (h.val x hx s)⟩
theorem Plan.kept {M M':Mdl}{k:Nat}(p:Plan M k M') (o:M.Ok):Kept M M':=
 ⟨p.n,p.room,fun _ hx=>hx.imp id fun e=>p.keep _ e,fun _ hx s=>p.val o hx s⟩
theorem Kept.tbl {M M':Mdl}(h:Kept M M'){x:Nat}(hx:M.isNode x):M'.tbl x=M.tbl x:=funext fun _=>h.val x hx _
theorem Kept.grew {M M':Mdl}(g:Mdl.Grew M M') (o:M.Ok):Kept M M':=⟨g.n,g.room,fun _ hx=>g.isNode hx,fun _ hx s=>g.val o hx s⟩
theorem surj_of_inj {n:Nat}{v:Nat→Nat}(lt:∀i,i<n→v i<n) (inj:∀i j,i<n→j<n→v i=v j→i=j){u:Nat}(hu:u<n):∃i,i<n∧v i=u:=by
 by_cases c:u∈(List.range n).map v
 ·obtain⟨i,hi,e⟩:=List.mem_map.1 c;exact⟨i,List.mem_range.1 hi,e⟩
 ·exfalso;have nd:((List.range n).map v).Nodup:=nodup_map_on v _ List.nodup_range fun _ hx _ hy e=>inj _ _ (List.mem_range.1 hx) (List.mem_range.1 hy) e
  have:=nodup_le (u :: (List.range n).map v) (List.range n) (List.nodup_cons.2 ⟨c,nd⟩) fun x hx=>by
   rcases List.mem_cons.1 hx with rfl|hx
   ·exact List.mem_range.2 hu
   ·obtain⟨i,hi,e⟩:=List.mem_map.1 hx;rw[← e];exact List.mem_range.2 (lt i (List.mem_range.1 hi))
  simp at this;omega
def downV (v:Nat→Nat) (p:Nat):Nat→Nat→Nat
 | 0=>v
 | d+1=>swv (downV v p d) (p-d-1)
def posN (v:Nat→Nat) (x:Nat):Nat→Nat
 | 0=>0
 | n+1=>if v n=x then n else posN v x n
def toP (v:Nat→Nat) (Z:Nat→Int) (n j:Nat):Nat:=posN v (Z j).toNat n
def toV (v:Nat→Nat) (Z:Nat→Int) (n:Nat):Nat→Nat→Nat
 | 0=>v
 | j+1=>downV (toV v Z n j) (toP (toV v Z n j) Z n j) (toP (toV v Z n j) Z n j-j)
def toC (v:Nat→Nat) (Z:Nat→Int) (n:Nat):Nat→Nat
 | 0=>0
 | j+1=>toC v Z n j+(toP (toV v Z n j) Z n j-j)
theorem toC_mono {v:Nat→Nat}{Z:Nat→Int}{n i:Nat}:∀{j},i≤j→toC v Z n i≤toC v Z n j
 | 0,h=>by rw[Nat.le_zero.1 h];exact Nat.le_refl _
 | j+1,h=>by
  rcases Nat.lt_or_ge j i with c|c
  ·rw[show i=j+1 by omega];exact Nat.le_refl _
  ·exact Nat.le_trans (toC_mono c) (Nat.le_add_right _ _)
theorem downV_lo {v:Nat→Nat}{p:Nat}:∀{d i:Nat},d≤p→i<p-d→downV v p d i=v i
 | 0,_,_,_=>rfl
 | d+1,i,h,hi=>by rw[downV,swv_far (by omega) (by omega),downV_lo (by omega) (by omega)]
theorem downV_at {v:Nat→Nat}{p:Nat}:∀{d:Nat},d≤p→downV v p d (p-d)=v p
 | 0,_=>rfl
 | d+1,h=>by
  rw[downV,show p-(d+1)=p-d-1 by omega,swv_k,show p-d-1+1=p-d by omega,downV_at (by omega)]
theorem posN_of {v:Nat→Nat}{i:Nat}:∀{n:Nat},(∀a b,a<n→b<n→v a=v b→a=b)→i<n→posN v (v i) n=i
 | 0,_,hi=>absurd hi (Nat.not_lt_zero _)
 | n+1,inj,hi=>by
  rw[posN];by_cases e:v n=v i
  ·rw[if_pos e];exact inj n i (by omega) hi e
  ·rw[if_neg e]
   have:i≠n:=fun q=>e (by rw[q])
   exact posN_of (fun a b ha hb=>inj a b (by omega) (by omega)) (by omega)
theorem to_at {v:Nat→Nat}{Z:Nat→Int}{n j:Nat}(lt:∀i,i<n→v i<n) (inj:∀a b,a<n→b<n→v a=v b→a=b) (hj:j<n) (hZ:∀i,i<n→0≤Z i∧Z i<(n:Int)) (hd:∀i j,i<n→j<i→Z j≠Z i) (hv:∀i,i<j→((v i:Nat):Int)=Z i) :
  toP v Z n j<n∧j≤toP v Z n j∧((v (toP v Z n j):Nat):Int)=Z j∧v (toP v Z n j)=(Z j).toNat:=by
 have z:=hZ j hj;obtain⟨p,hp,e⟩:=surj_of_inj lt inj (u:=(Z j).toNat) (by omega);have q:toP v Z n j=p:=by unfold toP;rw[← e];exact posN_of inj hp
 rw[q];refine⟨hp,Nat.le_of_not_lt fun c=>?_,by rw[e];omega,e⟩;have h1:=hv p c;rw[e]at h1;exact hd j p hj c (by omega)
theorem to_step {v:Nat→Nat}{Z:Nat→Int}{n j:Nat}(lt:∀i,i<n→v i<n) (inj:∀a b,a<n→b<n→v a=v b→a=b) (hj:j<n) (hZ:∀i,i<n→0≤Z i∧Z i<(n:Int)) (hd:∀i j,i<n→j<i→Z j≠Z i) (hv:∀i,i<j→((v i:Nat):Int)=Z i) :
  ∀i,i<j+1→((downV v (toP v Z n j) (toP v Z n j-j) i:Nat):Int)=Z i:=by
 obtain⟨h1,h2,h3,_⟩:=to_at lt inj hj hZ hd hv;intro i hi;by_cases e:i=j
 ·subst e;have:=downV_at (v:=v) (p:=toP v Z n i) (d:=toP v Z n i-i) (by omega);rw[show toP v Z n i-(toP v Z n i-i)=i by omega]at this;rw[this];exact h3
 ·rw[downV_lo (by omega) (by omega)];exact hv i (by omega)
theorem swv_ord {v:Nat→Nat}{n k:Nat}(hk:k+1<n) (lt:∀i,i<n→v i<n) (inj:∀a b,a<n→b<n→v a=v b→a=b):(∀i,i<n→swv v k i<n)∧∀a b,a<n→b<n→swv v k a=swv v k b→a=b:=by
 refine⟨fun i hi=>?_,fun a b ha hb e=>?_⟩
 ·unfold swv;split
  ·exact lt _ hk
  ·split
   ·exact lt _ (by omega)
   ·exact lt _ hi
 ·unfold swv at e;split at e
  ·split at e
   ·omega
   ·split at e
    ·have:=inj _ _ hk (by omega) e;omega
    ·have:=inj _ _ hk hb e;omega
  ·split at e
   ·split at e
    ·have:=inj _ _ (by omega) hk e;omega
    ·split at e
     ·omega
     ·have:=inj _ _ (by omega) hb e;omega
   ·split at e
    ·have:=inj _ _ ha hk e;omega
    ·split at e
     ·have:=inj _ _ ha (by omega) e;omega
     ·exact inj _ _ ha hb e
theorem downV_ord {v:Nat→Nat}{n p:Nat}(hp:p<n) (lt:∀i,i<n→v i<n) (inj:∀a b,a<n→b<n→v a=v b→a=b):∀{d},d≤p→(∀i,i<n→downV v p d i<n)∧∀a b,a<n→b<n→downV v p d a=downV v p d b→a=b
 | 0,_=>⟨lt,inj⟩
 | d+1,h=>by
  have:=downV_ord hp lt inj (d:=d) (by omega);exact swv_ord (by omega) this.1 this.2
theorem toV_ord {v:Nat→Nat}{Z:Nat→Int}{n:Nat}(lt:∀i,i<n→v i<n) (inj:∀a b,a<n→b<n→v a=v b→a=b) (hZ:∀i,i<n→0≤Z i∧Z i<(n:Int)) (hd:∀i j,i<n→j<i→Z j≠Z i):∀{j},j≤n→(∀i,i<n→toV v Z n j i<n)∧(∀a b,a<n→b<n→toV v Z n j a=toV v Z n j b→a=b)∧∀i,i<j→((toV v Z n j i:Nat):Int)=Z i
 | 0,_=>⟨lt,inj,fun _ h=>absurd h (Nat.not_lt_zero _)⟩
 | j+1,h=>by
  obtain⟨h1,h2,h3⟩:=toV_ord lt inj hZ hd (j:=j) (by omega);obtain⟨q1,q2,_⟩:=to_at h1 h2 (by omega) hZ hd h3;have o:=downV_ord q1 h1 h2 (d:=toP (toV v Z n j) Z n j-j) (by omega);exact⟨o.1,o.2,to_step h1 h2 (by omega) hZ hd h3⟩
end Go.Proofs.YtnnmdkaoiofabaaGreat.Sw
namespace Go.Proofs.YtnnmdkaoiofabaaGreat.Sw
open Go Go.RowKit
section
variable {w w':World}{S k:Nat}{M:Mdl}{F:Nat→Prop}
theorem swap_cases (s:St w S F M) (kn:k+1<M.n) :
  Calls Tryz.prog 44 #[.pointer (some ⟨S,0,none⟩),.int .i64 (k:Int)] w (fun e w'=>e = .returned (.int .i64 60)∧M.room<3*M.hs.length∧Below w.heap.size w w') ∨
  Calls Tryz.prog 44 #[.pointer (some ⟨S,0,none⟩),.int .i64 (k:Int)] w (fun e w'=>e = .returned (.int .i64 0)∧∃F' M',Plan M k M'∧M'.hs.length≤3*M.hs.length∧St w' S F' M'∧Wf F F' w w'):=by
 have ha:atLev M k≤M.hs.length:=by unfold atLev;exact List.length_filter_le _ _
 rcases Nat.lt_or_ge M.room (M.hs.length+2*atLev M k)with c|c
 ·refine .inl ((swap_full s kn c).mono ?_);rintro e w' ⟨rfl,b⟩;exact⟨rfl,by omega,b⟩
 ·refine .inr ((swap_ok s kn c).mono ?_);rintro e w' ⟨rfl,F',M',p,l,s',g⟩;exact⟨rfl,F',M',p,by omega,s',g⟩
def ToP (S:Nat) (M:Mdl) (F:Nat→Prop) (Z:Nat→Int) (w:World) (e:Ending) (w':World):Prop:=∃(k:Nat) (er:Int) (F':Nat→Prop) (M':Mdl),e = .returned (.tuple #[.int .i64 (k:Int),.int .i64 er])∧Kept M M'∧M'.hs.length≤3^k*M.hs.length∧St w' S F' M'∧Wf F F' w w'∧((er=0∧k=toC M.v Z M.n M.n∧M'.v=toV M.v Z M.n M.n)∨(er=60∧k<toC M.v Z M.n M.n∧M'.room<3*M'.hs.length))
structure ToR (S:Nat) (M:Mdl) (F:Nat→Prop) (v:Nat→Nat) (c:Nat) (w wr:World) (Fr:Nat→Prop) (Mr:Mdl):Prop where
 kept:Kept M Mr
 len:Mr.hs.length≤3^c*M.hs.length
 st:St wr S Fr Mr
 wf:Wf F Fr w wr
 v:Mr.v=v
theorem ToR.below {v:Nat→Nat}{c:Nat}{wr wq:World}{Fr:Nat→Prop}{Mr:Mdl}(r:ToR S M F v c w wr Fr Mr) (b:Below wr.heap.size wr wq):ToR S M F v c w wq Fr Mr:=
 ⟨r.kept,r.len,r.st.below b,r.wf.trans (Wf.of_below b Fr),r.v⟩
theorem ToR.swap {v:Nat→Nat}{c k:Nat}{wr wq:World}{Fr Fq:Nat→Prop}{Mr Mq:Mdl}(r:ToR S M F v c w wr Fr Mr) (p:Plan Mr k Mq) (hl:Mq.hs.length≤3*Mr.hs.length) (s:St wq S Fq Mq) (g:Wf Fr Fq wr wq):ToR S M F (swv v k) (c+1) w wq Fq Mq:=by
 refine⟨r.kept.trans (p.kept r.st.ok),Nat.le_trans hl ?_,s,r.wf.trans g,by rw[p.v,r.v]⟩;have:=Nat.mul_le_mul_left 3 r.len;rw[Nat.pow_succ,Nat.mul_comm (3^c) 3,Nat.mul_assoc];exact this
set_option maxRecDepth 100000 in
set_option maxHeartbeats 1000000 in
theorem to_any (s:St w S F M){ad:Option Addr}{len c:Nat}{Z:Nat→Int}(hz:Od.IntsAt w ad len Z) (hF:∀a,ad=some a→¬F a.block) (hp:Od.permB len Z M.n=true) :
  Calls Tryz.prog 12 #[.pointer (some ⟨S,0,none⟩),.slice ad len c] w fun e w'=>ToP S M F Z w e w':=by
 have o:=s.ok;have n8:=o.le8;have n1:=o.pos;obtain⟨hlen,hZ,hd⟩:=Od.permB_spec hp;subst hlen;obtain⟨n,hn⟩:∃n,M.n=n:=⟨_,rfl⟩
 rw[hn]at hz hp hZ hd n8 n1 ⊢;have hnA:Aside (M.n=n):=hn;have ordA:Aside (∀{j},j≤n→(∀i,i<n→toV M.v Z n j i<n)∧(∀a b,a<n→b<n→toV M.v Z n j a=toV M.v Z n j b→a=b)∧∀i,i<j→((toV M.v Z n j i:Nat):Int)=Z i):=toV_ord (fun i hi=>hn ▸ o.vlt i (hn ▸ hi)) (fun a b ha hb=>o.vinj a b (hn ▸ ha) (hn ▸ hb)) hZ hd;have hZA:Aside ((∀i,i<n→0≤Z i∧Z i<(n:Int))∧∀i j,i<n→j<i→Z j≠Z i):=⟨hZ,hd⟩
 have K1:=s_order' s;rw[hn]at K1;obtain⟨bz,oz,rfl,hbz,hcz⟩:=hz.resolve_left (by omega);have hFz:=hF _ rfl;have czA:Aside (∀{Fr wr},Wf F Fr w wr→∀i,i<n→wr.cell? ⟨bz,oz+i,none⟩=some (.int .i64 (Z i))):=fun g i hi=>(World.cell?_of_block (a:=⟨bz,oz+i,none⟩) (g.block _ hbz hFz)).trans (hcz i hi)
 have hpA:Aside (Od.permB n Z n=true):=hp;have sA:Aside (St w S F M):=s;have hbA:Aside (bz<w.heap.size):=hbz;have hC:toC M.v Z n n≤n*n:=by
  have:∀j,j≤n→toC M.v Z n j≤j*n:=fun j=>by
   induction j with
   | zero=>intro _;rw[toC];omega
   | succ j ih =>
    intro hj;have h:=ih (by omega);have q:=ordA.out (j:=j) (by omega);have:=(to_at q.1 q.2.1 (by omega) hZ hd q.2.2).1;rw[toC,Nat.succ_mul];omega
  exact this n (Nat.le_refl n)
 have hnn:n*n≤64:=Nat.mul_le_mul n8 n8;have hCA:Aside (toC M.v Z n n≤64):=Nat.le_trans hC hnn;clear hp hZ hd hz hcz hF hFz o s hn hC hnn;unfold ToP;rw[hnA.out];go_enter Tryz.func12,Tryz.ntmps12
 go_wp2_with (first
  | (go_at_call 14;refine K1.mono ?_;clear K1;rintro e w1 ⟨P,l,rfl,o1,inv,b1,hP⟩;have K2:=Od.set_ok o1 (ad:=some ⟨bz,oz,none⟩) (c:=c) (.inr ⟨bz,oz,rfl,Nat.lt_of_lt_of_le hbA.out b1.size,fun i hi=>czA.out (Wf.of_below b1 F) i hi⟩) n8 (by intro a e;cases e;have:=hbA.out;show bz≠P;omega) hpA.out)
  | (go_at_call 42;refine K2.mono ?_;clear K2;rintro e w2 ⟨rfl,_,m2⟩;have b2A:Aside (Below w.heap.size w w2):=b1.trans (m2.below b1.size hP);clear m2 b1 o1 inv hP))
 go_loopg [21,7] n (fun g s21 s7 wr=>∃j:Nat,j+g=n∧s21 = .int .i64 (j:Int)∧s7 = .int .i64 (toC M.v Z n j:Int)∧Aside (∃Fr Mr,ToR S M F (toV M.v Z n j) (toC M.v Z n j) w wr Fr Mr))
 case atStart=>exact⟨0,by omega,rfl,rfl,F,M,Kept.refl M,by rw[toC];omega,sA.out.below b2A.out,Wf.of_below b2A.out F,rfl⟩
 case round =>
  obtain⟨j,hj,rfl,rfl,hr⟩:=hrel;have hJ:Aside (j+gk=n):=hj;by_cases hlt:j<n
  ·obtain⟨Fr,Mr,rr⟩:=hr.out;have rrA:Aside (ToR S M F (toV M.v Z n j) (toC M.v Z n j) w wr Fr Mr):=rr;have hlt':(j:Int)<(n:Int):=by omega
   have k1:=czA.out rr.wf j hlt;obtain⟨z,hz⟩:∃z:Nat,Z j=(z:Int):=⟨(Z j).toNat,by have:=(hZA.out.1 j hlt).1;omega⟩
   have hz':z<n:=by have:=(hZA.out.1 j hlt).2;omega
   have q:=ordA.out (j:=j) (by omega);obtain⟨p1,p2,p3,p4⟩:=to_at q.1 q.2.1 hlt hZA.out.1 hZA.out.2 q.2.2;have hC1:Aside (toC M.v Z n (j+1)=toC M.v Z n j+(toP (toV M.v Z n j) Z n j-j)):=rfl;have hV1:Aside (toV M.v Z n (j+1)=downV (toV M.v Z n j) (toP (toV M.v Z n j) Z n j) (toP (toV M.v Z n j) Z n j-j)):=rfl;have hCj:Aside (toC M.v Z n (j+1)≤toC M.v Z n n):=toC_mono hlt;have hC64:=hCA.out;have hCle:=hCj.out;rw[hC1.out]at hCle;generalize toP (toV M.v Z n j) Z n j=p at p1 p2 p3 p4 hC1 hV1 hCle;generalize toC M.v Z n j=C at hC1 hCle rrA hr rr ⊢;generalize toV M.v Z n j=v at hV1 p3 p4 rrA hr rr q
   have mn:Mr.n=n:=rr.kept.n.trans hnA.out;have KO:=s_order' rr.st;rw[mn,rr.v]at KO;have hzp:z=v p:=by omega
   have pA:Aside (p<n∧j≤p∧z=v p):=⟨p1,p2,hzp⟩
   rw[hz]at k1;have ltA:Aside (j<n):=hlt;clear hj hz p3 p4 hzp rr hr q hlt
   go_wp2_with (first
    | (go_at_call 14;refine KO.mono ?_;clear KO;rintro e w3 ⟨P3,l3,rfl,o3,inv3,b3,hP3⟩;have K4:=Od.level_in o3 n8 z hz';have hl:l3 z=p:=(by rw[pA.out.2.2];exact inv3 p pA.out.1);rw[hl]at K4;have b3A:Aside (Below wr.heap.size wr w3):=b3;clear b3 hl inv3 hP3)
    | (go_at_call 43;refine K4.mono ?_;clear K4;rintro e w4 ⟨rfl,e4⟩;subst w4))
   clear hlt' k1 o3;obtain⟨gj,hgj⟩:∃gj,gj+1=gk:=⟨gk-1,by have:=hJ.out;have:=ltA.out;omega⟩
   have hgjA:Aside (gj+1=gk):=hgj;clear hgj;have hp8:p<8:=by have:=pA.out;omega
   have hjp:j≤p:=p2;have hCp:C+(p-j)≤64:=by omega
   clear p1 p2 hCle hC64;go_loopg [10,7] (p-j) (fun g s10 s7 wr'=>∃d:Nat,d+g=p-j∧s10 = .int .i64 ((p-d:Nat):Int)∧s7 = .int .i64 ((C+d:Nat):Int)∧Aside (∃Fr Mr,ToR S M F (downV v p d) (C+d) w wr' Fr Mr))
   case atStart=>exact⟨0,by omega,rfl,rfl,Fr,Mr,rrA.out.below b3A.out⟩
   case round =>
    obtain⟨d,hd,rfl,rfl,hr⟩:=hrel;have hDA:Aside (d+gk=p-j):=hd;have hdp:d≤p-j:=by omega
    obtain⟨Fq,Mq,rq⟩:=hr.out;have rqA:Aside (ToR S M F (downV v p d) (C+d) w wr Fq Mq):=rq;have mn:Mq.n=n:=rq.kept.n.trans hnA.out;obtain⟨c,hc⟩:∃c,C+d=c:=⟨_,rfl⟩
    have hcA:Aside (C+d=c):=hc;rw[hc]at rqA ⊢;have hc64:c≤64:=by omega
    obtain⟨q,hq⟩:∃q,p-d=q:=⟨_,rfl⟩
    have hqA:Aside (p-d=q):=hq;rw[hq];by_cases hlt:j<q
    ·obtain⟨r,rfl⟩:∃r,q=r+1:=⟨q-1,by omega⟩
     have hlt':(j:Int)<((r+1:Nat):Int):=by omega
     have hr1:IntKind.i64.wrap (((r+1:Nat):Int)-1)=(r:Int):=by rw[IntKind.wrap_i64];omega
     have hr2:wrap64 (((r+1:Nat):Int)-1)=(r:Int):=by unfold wrap64;omega
     have rk:r+1<Mq.n:=by have:=pA.out;omega
     have hrA:Aside (r+1<9):=by show r+1<9;omega
     have hltA:Aside (j<r+1):=hlt;have KSS:=swap_cases rq.st rk;obtain⟨z,hz⟩:∃z,(r:Int)=z:=⟨_,rfl⟩
     have hzA:Aside ((r:Int)=z):=hz;rw[hz]at hr1 hr2 KSS;clear hz;generalize hy:((r+1:Nat):Int)=y at hlt' hr1 hr2 ⊢;have hyA:Aside (((r+1:Nat):Int)=y):=hy;clear hy;rcases KSS with KS|KS
     ·clear hd hdp hq hc rq hr hlt mn rk hjp hCp hp8
      go_wp2_with (first
       | (go_at_call 44;refine KS.mono ?_;clear KS;rintro e w5 ⟨rfl,hfull,b5⟩))
      go_ret2
      have r5:=rqA.out.below b5;refine⟨c,60,Fq,Mq,rfl,r5.kept,r5.len,r5.st,r5.wf,.inr ⟨rfl,?_,by rw[r5.kept.room,← rqA.out.kept.room];exact hfull⟩⟩;have h1:=hC1.out;have h2:=hCj.out;have h3:=hcA.out;have h4:=hDA.out;have h5:=hqA.out;have h6:=hltA.out;omega
     ·clear hd hdp hq hc rq hr hlt mn rk hjp hCp hp8
      go_wp2_with (first
       | (go_at_call 44;refine KS.mono ?_;clear KS;rintro e w5 ⟨rfl,F5,M5,p5,l5,s5,g5⟩;have r5A:Aside (ToR S M F (swv (downV v p d) r) (c+1) w w5 F5 M5):=rqA.out.swap p5 l5 s5 g5;clear p5 l5 s5 g5))
      go_roundg (gk-1)
      case measure=>have h4:=hDA.out;have h5:=hqA.out;have h6:=hltA.out;omega
      case rel =>
       have h3:=hcA.out;have h4:=hDA.out;have h5:=hqA.out;have h6:=hltA.out;refine⟨d+1,by omega,?_,?_,F5,M5,?_⟩
       ·rw[show p-(d+1)=r by omega,hzA.out]
       ·rw[show C+(d+1)=c+1 by omega];go_num
       ·rw[downV,show p-d-1=r by omega,show C+(d+1)=c+1 by omega];exact r5A.out
    ·have hlt':¬(j:Int)<(q:Int):=by omega
     clear hd hdp hq hc rq hr mn hjp hCp hp8;have hltA:Aside (¬j<q):=hlt;clear hlt
     go_wp2_with fail
     go_roundg gj
     case measure=>have h1:=hgjA.out;omega
     case rel =>
      have h1:=hgjA.out;have h2:=hJ.out;have h3:=hcA.out;have h4:=hDA.out;have h5:=hqA.out;have h6:=hltA.out;have h7:=pA.out.2.1;have hd:d=p-j:=by omega
      have r:=rqA.out;rw[hd]at r h3;have hw:wrap64 ((j:Int)+1)=((j+1:Nat):Int):=by unfold wrap64;omega
      refine⟨j+1,by omega,by rw[hw],?_,Fq,Mq,?_⟩
      ·rw[hC1.out,h3]
      ·rw[hC1.out,hV1.out,h3];exact r
  ·obtain rfl:j=n:=by omega
   obtain⟨Fr,Mr,r⟩:=hr.out;have rA:Aside (ToR S M F (toV M.v Z j j) (toC M.v Z j j) w wr Fr Mr):=r;clear hr r hj
   go_wp2_with fail
   go_ret2
   have r:=rA.out;exact⟨_,0,Fr,Mr,rfl,r.kept,r.len,r.st,r.wf,.inl ⟨rfl,rfl,r.v⟩⟩
end
end Go.Proofs.YtnnmdkaoiofabaaGreat.Sw
