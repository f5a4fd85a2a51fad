/-
  Package mark: what is met below a node; Reach. Package mark: Reach: the inner nodes that are roots or are reached from these, rising.
-/
import Derived.Test.YtnnmdkaoiofabaaGreatBaseS
import Derived.Test.YtnnmdkaoiofabaaGreatRmB
import Derived.Deep.LoopGhost
namespace Go.Proofs.YtnnmdkaoiofabaaGreat.Mk
open Go Go.RowKit
def metP (ks:List Nat):Int→Option Int:=fun k=>if (ks.map (fun x:Nat=>(x:Int))).contains k=true then some 0 else none
theorem metP_in {ks:List Nat}{h:Nat}(c:h∈ks):metP ks (h:Int)=some 0:=by
 unfold metP;rw[if_pos];rw[List.contains_iff_mem];exact List.mem_map.2 ⟨h,c,rfl⟩
theorem metP_out {ks:List Nat}{h:Nat}(c:h ∉ ks):metP ks (h:Int)=none:=by
 unfold metP;rw[if_neg];rw[List.contains_iff_mem,List.mem_map];rintro⟨x,hx,e⟩
 have:x=h:=by omega
 exact c (this ▸ hx)
theorem metP_snoc (ks:List Nat) (h:Nat) (k:Int):Rm.at1 (metP ks) (h:Int) (some 0) k=metP (ks ++ [h]) k:=by
 unfold Rm.at1;by_cases e:k=(h:Int)
 ·rw[if_pos e,e,metP_in (by simp)]
 ·rw[if_neg e];unfold metP;by_cases c:k∈ks.map (fun x:Nat=>(x:Int))
  ·rw[if_pos (List.contains_iff_mem.2 c),if_pos (List.contains_iff_mem.2 (by rw[List.map_append];exact List.mem_append.2 (.inl c)))]
  ·rw[if_neg (fun q=>c (List.contains_iff_mem.1 q)),if_neg (fun q=>?_)];rw[List.contains_iff_mem,List.map_append,List.mem_append]at q;rcases q with q|q
   ·exact c q
   ·simp at q;exact e q
theorem metP_some {ks:List Nat}{k:Int}:(metP ks k).isSome=true↔∃x∈ks,(x:Int)=k:=by
 unfold metP;by_cases c:(ks.map (fun x:Nat=>(x:Int))).contains k=true
 ·rw[if_pos c];rw[List.contains_iff_mem,List.mem_map]at c;simpa using c
 ·rw[if_neg c];rw[List.contains_iff_mem,List.mem_map]at c;simp;intro x hx e;exact c ⟨x,hx,e⟩
def IsMet (w:World) (b:Nat) (ks:List Nat):Prop:=Rm.IsMap w b (metP ks) ks.length
theorem IsMet.lt {w:World}{b:Nat}{ks:List Nat}(h:IsMet w b ks):b<w.heap.size:=Rm.IsMap.lt h
theorem IsMet.same {w u:World}{b:Nat}{ks:List Nat}(h:IsMet w b ks) (e:u.heap[b]? = w.heap[b]?):IsMet u b ks:=Rm.IsMap.same h e
structure AddP (M:Mdl) (h:Nat) (ks ms:List Nat):Prop where
 inn:∀k∈ms,k∈M.hs
 kids:∀k∈ms,((M.nd k).2.1<2∨(M.nd k).2.1∈ks ++ ms)∧((M.nd k).2.2<2∨(M.nd k).2.2∈ks ++ ms)
 top:h<2∨h∈ks ++ ms
 only:∀Q:Nat→Prop,Q h→(∀k∈M.hs,Q k→Q (M.nd k).2.1∧Q (M.nd k).2.2)→∀k∈ms,Q k
 once:ks.Nodup→(ks ++ ms).Nodup
def AddQ (M:Mdl) (b h:Nat) (ks:List Nat) (w:World) (e:Ending) (w':World):Prop:=e = .returned (.tuple #[])∧∃ms,IsMet w' b (ks ++ ms)∧AddP M h ks ms∧Went (fun k=>k=b) w w'
theorem AddP.none {M:Mdl}{h:Nat}{ks:List Nat}(t:h<2∨h∈ks):AddP M h ks []:=⟨fun _ h=>absurd h List.not_mem_nil,fun _ h=>absurd h List.not_mem_nil,by rw[List.append_nil];exact t,fun _ _ _ _ h=>absurd h List.not_mem_nil,fun n=>by rwa [List.append_nil]⟩
theorem AddP.join {M:Mdl}{h:Nat}{ks m1 m2:List Nat}(hm:h∈M.hs) (hk:h ∉ ks) (a:AddP M (M.nd h).2.1 (ks ++ [h]) m1) (c:AddP M (M.nd h).2.2 ((ks ++ [h]) ++ m1) m2):AddP M h ks (h :: (m1 ++ m2)):=by
 have e:ks ++ (h :: (m1 ++ m2))=((ks ++ [h]) ++ m1) ++ m2:=by simp
 refine⟨fun k hk=>?_,fun k hk=>?_,.inr (by simp),fun Q q cl k hk=>?_,fun n=>?_⟩
 ·rcases List.mem_cons.1 hk with rfl|hk
  ·exact hm
  ·exact(List.mem_append.1 hk).elim (a.inn k) (c.inn k)
 ·rw[e];rcases List.mem_cons.1 hk with rfl|hk
  ·exact⟨a.top.imp id fun x=>List.mem_append.2 (.inl x),c.top⟩
  ·rcases List.mem_append.1 hk with hk|hk
   ·exact⟨(a.kids k hk).1.imp id fun x=>List.mem_append.2 (.inl x),(a.kids k hk).2.imp id fun x=>List.mem_append.2 (.inl x)⟩
   ·exact c.kids k hk
 ·rcases List.mem_cons.1 hk with rfl|hk
  ·exact q
  ·exact(List.mem_append.1 hk).elim (a.only Q (cl h hm q).1 cl k) (c.only Q (cl h hm q).2 cl k)
 ·rw[e];refine c.once (a.once ?_);rw[List.nodup_append];exact⟨n,by simp,fun x hx y hy e=>by simp at hy;exact hk (hy ▸ e ▸ hx)⟩
section
variable {w w' u:World}{S b h:Nat}{F0:Nat→Prop}{M:Mdl}
theorem st_went (s:St w S F0 M) (hnb:¬F0 b) (k:Went (fun k=>k=b) w u):St u S F0 M:=s.kept fun i hi=>k.block i (s.lt i hi) fun e=>hnb (e ▸ hi)
set_option maxRecDepth 100000 in
set_option maxHeartbeats 2000000 in
theorem add_step {ks:List Nat}(s:St w S F0 M) (hnb:¬F0 b) (m:IsMet w b ks) (hh:M.isNode h)
  (ih:∀(u:World) (c:Nat) (ls:List Nat),St u S F0 M→IsMet u b ls→M.isNode c→M.lev h<M.lev c→Calls Tryz.prog 67 #[.map (some b),.pointer (some ⟨S,0,none⟩),.int .u32 (c:Int)] u (AddQ M b c ls u)) :
  Calls Tryz.prog 67 #[.map (some b),.pointer (some ⟨S,0,none⟩),.int .u32 (h:Int)] w (AddQ M b h ks w):=by
 have ok:=s.ok;have hb:=Mdl.isNode_lt ok hh;have LK:=Rm.map_look m (h:Int);by_cases c:h∈ks
 ·rw[metP_in c]at LK;simp only[Option.isSome_some]at LK;have t:Aside (AddP M h ks []):=AddP.none (.inr c);clear c ih;go_enter Tryz.func67,Tryz.ntmps67
  go_wp2_with fail
  refine bodyPost_ret (results_none rfl _ _ _) rfl ?_;exact⟨rfl,[],by rw[List.append_nil];exact m.same (Below.heap_alloc _ _ _ m.lt),t.out,Went.new _ _ _⟩
 ·rw[metP_out c]at LK;simp only[Option.isSome_none]at LK;by_cases c2:h<2
  ·have c1:(h:Int)≤1:=by omega
   have t:Aside (AddP M h ks []):=AddP.none (.inl c2);clear c ih c2;go_enter Tryz.func67,Tryz.ntmps67
   go_wp2_with fail
   refine bodyPost_ret (results_none rfl _ _ _) rfl ?_;exact⟨rfl,[],by rw[List.append_nil];exact m.same (Below.heap_alloc _ _ _ m.lt),t.out,Went.new _ _ _⟩
  ·have hm:=hh.resolve_left c2;have c1:¬(h:Int)≤1:=by omega
   have m0:IsMet (w.alloc (.cells #[] 126)) b ks:=m.same (Below.heap_alloc _ _ _ m.lt);have s0:=s.new (.cells #[] 126);obtain⟨w1,hp1,m1,wt1⟩:=Rm.map_put m0 (h:Int) 0;have m1':IsMet w1 b (ks ++ [h]):=by
    unfold IsMet;rw[List.length_append];exact m1.congr fun k=>metP_snoc ks h k
   have wtA:Aside (Went (fun k=>k=b) w w1):=((Went.new _ w _).trans ⟨wt1.os,wt1.tape,wt1.output,wt1.size,wt1.block⟩)
   have s1:=st_went s hnb wtA.out;have KA:=s_low s1 h (by omega);rw[Mdl.lowN_in ok hm]at KA;have l1:=ok.lo h hm;have l2:=ok.hi h hm;have KX:=ih w1 _ _ s1 m1' l1.1 (by rw[Mdl.lev_in ok hm];exact l1.2);have KB:Aside (∀u,St u S F0 M→Calls Tryz.prog 65 #[.pointer (some ⟨S,0,none⟩),.int .u32 (h:Int)] u fun e w'=>e = .returned (.int .u32 ((M.nd h).2.2:Int))∧w'=u):=fun u su=>by
    have:=s_high su h (by omega);rwa [Mdl.highN_in ok hm]at this
   have KY:Aside (∀u ls,St u S F0 M→IsMet u b ls→Calls Tryz.prog 67 #[.map (some b),.pointer (some ⟨S,0,none⟩),.int .u32 ((M.nd h).2.2:Int)] u (AddQ M b (M.nd h).2.2 ls u)):=fun u ls su mu=>ih u _ ls su mu l2.1 (by rw[Mdl.lev_in ok hm];exact l2.2)
   have fin:Aside (∀p q,AddP M (M.nd h).2.1 (ks ++ [h]) p→AddP M (M.nd h).2.2 ((ks ++ [h]) ++ p) q→AddP M h ks (h :: (p ++ q))):=fun p q=>AddP.join hm c
   have kp:Aside (∀u,Went (fun k=>k=b) w1 u→St u S F0 M):=fun u k=>st_went s1 hnb k
   clear ih l1 l2 m1 m1' wt1 c c2 hm hnb ok m0 s0 m s;generalize (M.nd h).2.1=lo at KA KX fin;generalize (M.nd h).2.2=hi at KB KY fin;go_enter Tryz.func67,Tryz.ntmps67
   go_wp2_with (first
    | (go_at_call 64;refine KA.mono ?_;clear KA;rintro e w1 ⟨rfl,rfl⟩)
    | (go_at_call 67;refine KX.mono ?_;clear KX;rintro e w3 ⟨rfl,p,m3,a3,wt3⟩;have K4:=KB.out w3 (kp.out w3 wt3);have K5:=KY.out w3 _ (kp.out w3 wt3) m3;have a3A:Aside (AddP M lo (ks ++ [h]) p):=a3;clear m3 a3)
    | (go_at_call 65;refine K4.mono ?_;clear K4;rintro e w3 ⟨rfl,rfl⟩)
    | (go_at_call 67;refine K5.mono ?_;clear K5;rintro e w5 ⟨rfl,q,m5,a5,wt5⟩))
   go_end0
   refine⟨rfl,h :: (p ++ q),?_,fin.out p q a3A.out a5,(wtA.out.trans wt3).trans wt5⟩;rw[show ks ++ (h :: (p ++ q))=((ks ++ [h]) ++ p) ++ q by simp];exact m5
theorem add_any (hnb:¬F0 b) (d:Nat):∀(w:World) (h:Nat) (ks:List Nat),M.n-M.lev h≤d→St w S F0 M→IsMet w b ks→M.isNode h→Calls Tryz.prog 67 #[.map (some b),.pointer (some ⟨S,0,none⟩),.int .u32 (h:Int)] w (AddQ M b h ks w):=by
 induction d with
 | zero =>
  intro w h ks hd s m hh;exact add_step s hnb m hh fun u c _ _ _ hc hl=>by have:=Mdl.lev_le s.ok hc;omega
 | succ d ih =>
  intro w h ks hd s m hh;exact add_step s hnb m hh fun u c ls su mu hc hl=>ih u c ls (by omega) su mu hc
end
end Go.Proofs.YtnnmdkaoiofabaaGreat.Mk
namespace Go.Proofs.YtnnmdkaoiofabaaGreat.Mk
open Go Go.RowKit
def HsAt (w:World) (ad:Option Addr) (n:Nat) (H:Nat→Nat):Prop:=
 n=0∨∃b off,ad=some ⟨b,off,none⟩∧b<w.heap.size∧∀i,i<n→w.cell? ⟨b,off+i,none⟩=some (.int .u32 (H i:Int))
section
variable {w w':World}{ad:Option Addr}{n:Nat}{H:Nat→Nat}
theorem HsAt.kept (h:HsAt w ad n H) (k:Below w.heap.size w w'):HsAt w' ad n H:=by
 rcases h with h|⟨b,off,e,hb,hc⟩
 ·exact .inl h
 ·exact .inr ⟨b,off,e,Nat.lt_of_lt_of_le hb k.size,fun i hi=>by rw[k.cell hb];exact hc i hi⟩
theorem HsAt.get {b off:Nat}(h:HsAt w (some ⟨b,off,none⟩) n H){i:Nat}(hi:i<n):w.cell? ⟨b,off+i,none⟩=some (.int .u32 (H i:Int)):=by
 rcases h with h|⟨b',off',e,_,hc⟩
 ·omega
 ·injection e with e
  injection e with e1 e2
  subst e1 e2;exact hc i hi
theorem HsAt.some (h:HsAt w ad n H) (hn:0<n):∃b off,ad = .some ⟨b,off,none⟩∧b<w.heap.size:=by
 rcases h with h|⟨b,off,e,hb,_⟩
 ·omega
 ·exact⟨b,off,e,hb⟩
theorem HsAt.own {B cap:Nat}(o:OwnR 36 w B ad n cap (fun i=>.int .u32 (H i:Nat))):HsAt w ad n H:=by
 by_cases hn:0<n
 ·obtain⟨g,rfl⟩:=o.form hn;exact .inr ⟨g,0,rfl,(o.block g ⟨_,rfl,rfl⟩).2,fun i hi=>by rw[Nat.zero_add];exact o.cell hi⟩
 ·exact .inl (by omega)
end
structure Rch (M:Mdl) (H:Nat→Nat) (j:Nat) (ks:List Nat):Prop where
 inn:∀k∈ks,k∈M.hs
 closed:∀k∈ks,((M.nd k).2.1<2∨(M.nd k).2.1∈ks)∧((M.nd k).2.2<2∨(M.nd k).2.2∈ks)
 top:∀i,i<j→H i<2∨H i∈ks
 only:∀Q:Nat→Prop,(∀i,i<j→Q (H i))→(∀k∈M.hs,Q k→Q (M.nd k).2.1∧Q (M.nd k).2.2)→∀k∈ks,Q k
 once:ks.Nodup
theorem Rch.start (M:Mdl) (H:Nat→Nat):Rch M H 0 []:=⟨fun _ h=>absurd h List.not_mem_nil,fun _ h=>absurd h List.not_mem_nil,fun _ hi=>absurd hi (Nat.not_lt_zero _),fun _ _ _ _ h=>absurd h List.not_mem_nil,List.nodup_nil⟩
theorem Rch.step {M:Mdl}{H:Nat→Nat}{j:Nat}{ks ms:List Nat}(r:Rch M H j ks) (a:AddP M (H j) ks ms):Rch M H (j+1) (ks ++ ms):=by
 refine⟨fun k hk=>(List.mem_append.1 hk).elim (r.inn k) (a.inn k),fun k hk=>?_,fun i hi=>?_,fun Q q cl k hk=>?_,a.once r.once⟩
 ·rcases List.mem_append.1 hk with hk|hk
  ·exact⟨(r.closed k hk).1.imp id fun x=>List.mem_append.2 (.inl x),(r.closed k hk).2.imp id fun x=>List.mem_append.2 (.inl x)⟩
  ·exact a.kids k hk
 ·by_cases c:i=j
  ·subst c;exact a.top
  ·exact(r.top i (by omega)).imp id fun x=>List.mem_append.2 (.inl x)
 ·rcases List.mem_append.1 hk with hk|hk
  ·exact r.only Q (fun i hi=>q i (by omega)) cl k hk
  ·exact a.only Q (q j (by omega)) cl k hk
theorem nodup_lenN : ∀(a b:List Nat),a.Nodup→(∀x∈a,x∈b)→a.length≤b.length
 | [],b,_,_=>Nat.zero_le _
 | x :: a,b,hn,h=>by
  have hx:x∈b:=h x (by simp);have hxa:x ∉ a:=(List.nodup_cons.1 hn).1;have:=nodup_lenN a (b.erase x) (List.nodup_cons.1 hn).2 fun y hy=>(List.mem_erase_of_ne (show y≠x from fun e=>hxa (e ▸ hy))).2 (h y (by simp[hy]))
  rw[List.length_erase_of_mem hx]at this
  have:0<b.length:=List.length_pos_of_mem hx;simp only[List.length_cons];omega
theorem Rch.perm {M:Mdl}{H:Nat→Nat}{j:Nat}{ks xs:List Nat}(r:Rch M H j ks) (e:∀x,x∈xs↔x∈ks) (n:xs.Nodup):Rch M H j xs:=
 ⟨fun k hk=>r.inn k ((e k).1 hk),fun k hk=>⟨(r.closed k ((e k).1 hk)).1.imp id (e _).2,(r.closed k ((e k).1 hk)).2.imp id (e _).2⟩,fun i hi=>(r.top i hi).imp id (e _).2,fun Q q cl k hk=>r.only Q q cl k ((e k).1 hk),n⟩
theorem own_rebase {e:TypeId}{w:World}{B B' n cap:Nat}{ad:Option Addr}{V:Nat→Value}(h:OwnR e w B ad n cap V) (hb:∀k,At ad k→B'≤k):OwnR e w B' ad n cap V:=by
 obtain⟨h1,h2⟩:=h;refine⟨h1,?_⟩;rcases h2 with h0|⟨g,cap',cur,hv,hg,r⟩
 ·exact .inl h0
 ·refine .inr ⟨g,cap',cur,hv,hb g ?_,r⟩;cases hv;exact⟨_,rfl,rfl⟩
theorem own_nat {w:World}{ad:Option Addr}{cap:Nat}{xs:List Int}(o:Rs.OwnH w ad cap xs) (ys:List Nat) (e:xs=ys.map fun x:Nat=>(x:Int)):OwnR 36 w 0 ad ys.length cap (fun i=>.int .u32 (ys.getD i 0:Nat)):=by
 subst e;unfold Rs.OwnH at o;rw[List.length_map]at o;unfold OwnR
 have:rowL ys.length (fun i=>Value.int .u32 (ys.getD i 0:Nat))=(ys.map fun x:Nat=>(x:Int)).map Rs.hV:=by
  apply List.ext_getElem?;intro i;by_cases hi:i<ys.length
  ·rw[rowL_get _ _ hi,List.getElem?_map,List.getElem?_map,List.getElem?_eq_getElem hi,List.getD_eq_getElem?_getD,List.getElem?_eq_getElem hi];rfl
  ·rw[List.getElem?_eq_none (by rw[rowL_length];omega),List.getElem?_eq_none (by simp;omega)]
 rw[this];exact o
section
variable {w w' u:World}{S b h:Nat}{F0:Nat→Prop}{M:Mdl}
def ReachQ (M:Mdl) (n:Nat) (H:Nat→Nat) (w:World) (e:Ending) (w':World):Prop:=
 ((∀i,i<n→M.isNode (H i))∧∃ad cap xs,e = .returned (.tuple #[.slice ad xs.length cap,.int .i64 0])∧Rch M H n xs∧xs.Pairwise (· < ·)∧OwnR 36 w' w.heap.size ad xs.length cap (fun i=>.int .u32 (xs.getD i 0:Nat))∧Below w.heap.size w w') ∨
 ((∃i,i<n∧¬M.isNode (H i))∧e = .returned (.tuple #[.slice Option.none 0 0,.int .i64 101])∧Below w.heap.size w w')
theorem below_map {b:Nat}(k:Below w.heap.size w u) (hb:w.heap.size≤b) (q:Went (fun k=>k=b) u w'):Below w.heap.size w w':=
 ⟨q.os.trans k.os,q.tape.trans k.tape,q.output.trans k.output,Nat.le_trans k.size q.size,fun i hi=>(q.block i (Nat.lt_of_lt_of_le hi k.size) (by omega)).trans (k.block i hi)⟩
set_option maxRecDepth 100000 in
set_option maxHeartbeats 2000000 in
theorem reach_any {ad:Option Addr}{n cap:Nat}{H:Nat→Nat}(s:St w S F0 M) (hl:HsAt w ad n H) (hb:∀i,i<n→H i<4294967296) (hn:n≤1000000) :
  Calls Tryz.prog 28 #[.pointer (Option.some ⟨S,0,none⟩),.slice ad n cap] w (ReachQ M n H w):=by
 have hmm:=@run_makeMap Tryz.prog;have hwn:IntKind.i64.wrap (n:Int)=(n:Int):=by rw[IntKind.wrap_i64];omega
 go_enter Tryz.func28,Tryz.ntmps28
 go_wp2_with fail
 have m0:IsMet (w.alloc (.map #[] 0)) w.heap.size []:=(Rm.IsMap.fresh w).congr fun k=>rfl
 have B0:Below w.heap.size w (w.alloc (.map #[] 0)):=(Below.refl _ w).alloc (Nat.le_refl _) _;have s0:=s.below B0;have hl0:=hl.kept B0;have hnb:¬F0 w.heap.size:=fun e=>Nat.lt_irrefl _ (s.lt _ e)
 have B0A:Aside (Below w.heap.size w (w.alloc (.map #[] 0))):=B0;generalize w.alloc (.map #[] 0)=w1 at m0 s0 hl0 B0A ⊢;obtain⟨b,hbe⟩:∃b,w.heap.size=b:=⟨_,rfl⟩
 have lb:Aside (w.heap.size≤b):=Nat.le_of_eq hbe;rw[hbe]at hnb m0
 conv in (occs := *) (Value.map (Option.some w.heap.size)) => all_goals rw [hbe]
 have hlenA:Aside (M.hs.length≤32768):=by have:=s.ok.len;have:=s.room;show _≤_;omega
 clear hbe hmm B0 s hl;have KA:Aside (∀(u:World) (c:Nat) (ks:List Nat),St u S F0 M→IsMet u b ks→M.isNode c→Calls Tryz.prog 67 #[.map (Option.some b),.pointer (Option.some ⟨S,0,none⟩),.int .u32 (c:Int)] u (AddQ M b c ks u)):=fun u c ks su mu hc=>add_any hnb _ u c ks (Nat.le_refl _) su mu hc
 have hbA:Aside (∀i,i<n→H i<4294967296):=hb;have wentA:Aside (∀u,Went (fun k=>k=b) w1 u→St u S F0 M):=fun u k=>st_went s0 hnb k
 have hlA:Aside (HsAt w1 ad n H):=hl0;have mA:Aside (IsMet w1 b []):=m0;clear hb s0 hnb hl0 m0;go_loopg [12,8] n (fun g si _sh wr=>∃(j:Nat) (ks:List Nat),j+g=n∧si = .int .i64 (j:Int)∧Aside (∀i,i<j→M.isNode (H i))∧Aside (Rch M H j ks)∧Aside (IsMet wr b ks)∧Aside (Went (fun k=>k=b) w1 wr))
 case atStart=>exact⟨0,[],by omega,rfl,fun i hi=>absurd hi (Nat.not_lt_zero _),Rch.start M H,mA,⟨rfl,rfl,rfl,Nat.le_refl _,fun _ _ _=>rfl⟩⟩
 case round =>
  obtain⟨j,ks,hj,rfl,hN,hR,hM,hW⟩:=hrel;have hJ:Aside (j+gk=n):=hj;have hjn:j≤n:=by omega
  clear hj;have sr:=wentA.out wr hW.out;by_cases hlt:j<n
  ·have hlt':(j:Int)<(n:Int):=by omega
   obtain⟨bl,off,rfl,hbl⟩:=hlA.out.some (by omega);have hc:wr.cell? ⟨bl,off+j,none⟩=Option.some (.int .u32 (H j:Int)):=by
    have hne:bl≠b:=fun e=>by
     have hc:=hlA.out.get hlt;obtain⟨es,ck,l,hq,_⟩:=mA.out;rw[e]at hc;unfold World.cell? at hc;rw[hq]at hc;simp at hc
    have:=hW.out.block bl hbl hne;have hc:=hlA.out.get hlt;unfold World.cell? at hc ⊢;rw[this];exact hc
   have hb1:=hbA.out j hlt;have KI:=s_is sr (H j) hb1;have hjw:IntKind.i64.wrap ((j:Int)+1)=(j:Int)+1:=by rw[IntKind.wrap_i64];omega
   by_cases hnd:M.isNode (H j)
   ·rw[Mdl.nodeB_true hnd]at KI;have KX:=KA.out wr (H j) ks sr hM.out hnd;have hN2:Aside (∀i,i<j+1→M.isNode (H i)):=fun i hi=>by
     by_cases c:i=j
     ·rw[c];exact hnd
     ·exact hN.out i (by omega)
    have hst:Aside (∀ms,AddP M (H j) ks ms→Rch M H (j+1) (ks ++ ms)):=fun ms a=>hR.out.step a
    have hltA:Aside (j<n):=hlt;clear hnd hb1 hlt sr;generalize H j=c at KI KX hc hst
    go_wp2_with (first
     | (go_at_call 25;refine KI.mono ?_;clear KI;rintro e wr ⟨rfl,rfl⟩)
     | (go_at_call 67;refine KX.mono ?_;clear KX;rintro e w3 ⟨rfl,p,m3,a3,wt3⟩;have fA:Aside (AddP M c ks p∧IsMet w3 b (ks ++ p)∧Went (fun k=>k=b) wr w3):=⟨a3,m3,wt3⟩;clear a3 m3 wt3))
    go_roundg (gk-1)
    case measure=>have:=hJ.out;have:=hltA.out;omega
    case rel =>
     have:=hJ.out;have:=hltA.out;exact⟨j+1,ks ++ p,by omega,by go_num,hN2,hst.out p fA.out.1,fA.out.2.1,hW.out.trans fA.out.2.2⟩
   ·rw[Mdl.nodeB_false hnd]at KI;have bad:Aside (∃i,i<n∧¬M.isNode (H i)):=⟨j,hlt,hnd⟩
    clear hnd hb1 hlt KA sr;generalize H j=c at KI hc
    go_wp2_with (first
     | (go_at_call 25;refine KI.mono ?_;clear KI;rintro e wr ⟨rfl,rfl⟩))
    go_ret2
    exact .inr ⟨bad.out,rfl,below_map B0A.out lb.out hW.out⟩
  ·obtain rfl:j=n:=by omega
   have KK:=Rm.keys_any (Option.some b) wr;have mk:Rm.MapV (wr.alloc (.cells #[.map (Option.some b)] 120)) (Option.some b) (metP ks) ks.length:=hM.out.same (Below.heap_alloc _ _ _ hM.out.lt);have KS:=Rm.sorted_any wr.heap.size ks.length (Option.some b) (metP ks) (wr.alloc (.cells #[.map (Option.some b)] 120)) (by have:=nodup_lenN ks M.hs hR.out.once hR.out.inn;have:=hlenA.out;omega) (by simp) (by simp) mk;have Bn:Aside (Below w.heap.size w (wr.alloc (.cells #[.map (Option.some b)] 120))):=(below_map B0A.out lb.out hW.out).alloc (below_map B0A.out lb.out hW.out).size _;clear hlt hJ KA hjn mk
   go_wp2_with (first
    | (go_at_call 69;refine KK.mono ?_;clear KK;rintro e w4 ⟨rfl,rfl⟩)
    | (go_at_call 68;refine KS.mono ?_;clear KS;rintro e w5 ⟨ad5,cap5,xs,rfl,kx,sx,lx,ox,nx,bx⟩;have fA:Aside (Rm.Keys (metP ks) xs∧xs.Pairwise (· < ·)∧Rs.OwnH w5 ad5 cap5 xs∧(∀k,Rs.At ad5 k→(wr.alloc (.cells #[.map (Option.some b)] 120)).heap.size≤k)∧Below (wr.alloc (.cells #[.map (Option.some b)] 120)).heap.size (wr.alloc (.cells #[.map (Option.some b)] 120)) w5):=⟨kx,sx,ox,nx,bx⟩;clear kx sx ox nx bx))
   go_ret2
   obtain⟨kx,sx,ox,nx,bx⟩:=fA.out;have cast:xs=(xs.map Int.toNat).map (fun x:Nat=>(x:Int)):=by
    rw[List.map_map];refine(List.map_id' xs).symm.trans (List.map_congr_left fun x hx=>?_);obtain⟨y,_,e⟩:=metP_some.1 ((kx.2 x).1 hx);show x=((x.toNat:Nat):Int)
    omega
   have mem:∀x,x∈xs.map Int.toNat↔x∈ks:=fun x=>by
    constructor
    ·intro hx;obtain⟨z,hz,rfl⟩:=List.mem_map.1 hx;obtain⟨y,hy,e⟩:=metP_some.1 ((kx.2 z).1 hz);rw[← e];exact hy
    ·intro hx;have:=(kx.2 (x:Int)).2 (metP_some.2 ⟨x,hx,rfl⟩);exact List.mem_map.2 ⟨_,this,by simp⟩
   have so:(xs.map Int.toNat).Pairwise (· < ·):=by
    rw[cast]at sx;exact(List.pairwise_map.1 sx).imp fun h=>by omega
   have Bq:Below w.heap.size w w5:=Bn.out.trans ⟨bx.os,bx.tape,bx.output,bx.size,fun k hk=>bx.block k (Nat.lt_of_lt_of_le hk Bn.out.size)⟩;refine .inl ⟨hN.out,ad5,cap5,xs.map Int.toNat,by rw[List.length_map];rfl,hR.out.perm mem (so.imp fun h=>Nat.ne_of_lt h),so,own_rebase (own_nat ox _ cast) fun k hk=>Nat.le_trans Bn.out.size (nx k hk),Bq⟩
end
end Go.Proofs.YtnnmdkaoiofabaaGreat.Mk
