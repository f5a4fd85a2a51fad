/-
  Package count: what is reached; Size and Levels. Package count: Size and Levels.
-/
import Derived.Test.YtnnmdkaoiofabaaGreatCtX
import Derived.Deep.LoopGhost
namespace Go.Proofs.YtnnmdkaoiofabaaGreat
open Go Go.RowKit
def ent (M:Mdl) (k:Nat):Int×Int:=((k:Int),((M.nd k).1:Int))
theorem look_in (M:Mdl){h:Nat}:∀{ks:List Nat},h∈ks→Hm.look (ks.map (ent M)) (h:Int)=some ((M.nd h).1:Int)
 | k :: ks,hk=>by
  show (if (k:Int)=(h:Int)then some ((M.nd k).1:Int)else Hm.look (ks.map (ent M)) (h:Int))=_;by_cases c:k=h
  ·subst c;rw[if_pos rfl]
  ·rw[if_neg (show ¬((k:Int)=(h:Int)) by omega)];exact look_in M ((List.mem_cons.1 hk).resolve_left fun e=>c e.symm)
theorem look_out (M:Mdl){h:Nat}{ks:List Nat}(hk:h ∉ ks):Hm.look (ks.map (ent M)) (h:Int)=none:=by
 rw[Hm.look_none];intro p hp e;obtain⟨k,hk',rfl⟩:=List.mem_map.1 hp
 have:(k:Int)=(h:Int):=e;exact hk ((show k=h by omega) ▸ hk')
theorem keys_once {M:Mdl}{w:World}{b:Nat}{ks:List Nat}(m:Hm.IsM w b (ks.map (ent M))):ks.Nodup:=by
 obtain⟨es,ck,_,q⟩:=m;have:=q.nodup;rw[List.map_map]at this;exact(List.pairwise_map.1 this).imp fun h e=>h (by rw[e])
structure AddP (M:Mdl) (h:Nat) (ks ms:List Nat):Prop where
 inn:∀k∈ms,k∈M.hs
 kids:∀k∈ms,((M.nd k).2.1<2∨(M.nd k).2.1∈ks ++ ms)∧((M.nd k).2.2<2∨(M.nd k).2.2∈ks ++ ms)
 top:h<2∨h∈ks ++ ms
 only:∀Q:Nat→Prop,Q h→(∀k∈M.hs,Q k→Q (M.nd k).2.1∧Q (M.nd k).2.2)→∀k∈ms,Q k
def AddQ (M:Mdl) (b h:Nat) (ks:List Nat) (w:World) (e:Ending) (w':World):Prop:=e = .returned (.tuple #[])∧∃ms,Hm.IsM w' b ((ks ++ ms).map (ent M))∧AddP M h ks ms∧Went (fun k=>k=b) w w'
theorem AddP.none {M:Mdl}{h:Nat}{ks:List Nat}(t:h<2∨h∈ks):AddP M h ks []:=⟨fun _ h=>absurd h List.not_mem_nil,fun _ h=>absurd h List.not_mem_nil,by rw[List.append_nil];exact t,fun _ _ _ _ h=>absurd h List.not_mem_nil⟩
theorem AddP.join {M:Mdl}{h:Nat}{ks m1 m2:List Nat}(hm:h∈M.hs) (a:AddP M (M.nd h).2.1 (ks ++ [h]) m1) (c:AddP M (M.nd h).2.2 ((ks ++ [h]) ++ m1) m2):AddP M h ks (h :: (m1 ++ m2)):=by
 have e:ks ++ (h :: (m1 ++ m2))=((ks ++ [h]) ++ m1) ++ m2:=by simp
 refine⟨fun k hk=>?_,fun k hk=>?_,.inr (by simp),fun Q q cl k hk=>?_⟩
 ·rcases List.mem_cons.1 hk with rfl|hk
  ·exact hm
  ·exact(List.mem_append.1 hk).elim (a.inn k) (c.inn k)
 ·rw[e];rcases List.mem_cons.1 hk with rfl|hk
  ·exact⟨a.top.imp id fun x=>List.mem_append.2 (.inl x),c.top⟩
  ·rcases List.mem_append.1 hk with hk|hk
   ·exact⟨(a.kids k hk).1.imp id fun x=>List.mem_append.2 (.inl x),(a.kids k hk).2.imp id fun x=>List.mem_append.2 (.inl x)⟩
   ·exact c.kids k hk
 ·rcases List.mem_cons.1 hk with rfl|hk
  ·exact q
  ·exact(List.mem_append.1 hk).elim (a.only Q (cl h hm q).1 cl k) (c.only Q (cl h hm q).2 cl k)
theorem went_one {b:Nat}{w w' w'':World}(k:Went (fun k=>k=b) w w') (q:Went (fun k=>k=b) w' w''):Went (fun k=>k=b) w w'':=
 ⟨q.os.trans k.os,q.tape.trans k.tape,q.output.trans k.output,Nat.le_trans k.size q.size,fun i hi hne=>(q.block i (Nat.lt_of_lt_of_le hi k.size) hne).trans (k.block i hi hne)⟩
section
variable {w w' u:World}{S b h:Nat}{F0:Nat→Prop}{M:Mdl}
theorem St.went (s:St w S F0 M) (hnb:¬F0 b) (k:Went (fun k=>k=b) w u):St u S F0 M:=s.kept fun i hi=>k.block i (s.lt i hi) fun e=>hnb (e ▸ hi)
set_option maxRecDepth 100000 in
set_option maxHeartbeats 2000000 in
theorem add_step {ks:List Nat}(s:St w S F0 M) (hnb:¬F0 b) (m:Hm.IsM w b (ks.map (ent M))) (hh:M.isNode h)
  (ih:∀(u:World) (c:Nat) (ls:List Nat),St u S F0 M→Hm.IsM u b (ls.map (ent M))→M.isNode c→M.lev h<M.lev c→Calls Tryz.prog 99 #[.map (some b),.pointer (some ⟨S,0,none⟩),.int .u32 (c:Int)] u (AddQ M b c ls u)) :
  Calls Tryz.prog 99 #[.map (some b),.pointer (some ⟨S,0,none⟩),.int .u32 (h:Int)] w (AddQ M b h ks w):=by
 have ok:=s.ok;have hb:=Mdl.isNode_lt ok hh;have LK:=Hm.map_look 133 Tryz.underlying133 m (h:Int);by_cases c:h∈ks
 ·rw[look_in M c]at LK;simp only[Option.getD_some,Option.isSome_some]at LK;have t:Aside (AddP M h ks []):=AddP.none (.inr c);clear c ih;go_enter Tryz.func99,Tryz.ntmps99
  go_wp2_with fail
  refine bodyPost_ret (results_none rfl _ _ _) rfl ?_;exact⟨rfl,[],by rw[List.append_nil];exact m,t.out,⟨rfl,rfl,rfl,Nat.le_refl _,fun _ _ _=>rfl⟩⟩
 ·rw[look_out M c]at LK;simp only[Option.getD_none,Option.isSome_none]at LK;by_cases c2:h<2
  ·have c1:(h:Int)≤1:=by omega
   have t:Aside (AddP M h ks []):=AddP.none (.inl c2);clear c ih c2;go_enter Tryz.func99,Tryz.ntmps99
   go_wp2_with fail
   refine bodyPost_ret (results_none rfl _ _ _) rfl ?_;exact⟨rfl,[],by rw[List.append_nil];exact m,t.out,⟨rfl,rfl,rfl,Nat.le_refl _,fun _ _ _=>rfl⟩⟩
  ·have hm:=hh.resolve_left c2;have c1:¬(h:Int)≤1:=by omega
   have KL:=lv_any s hh;rw[Mdl.lev_in ok hm]at KL;obtain⟨w1,hp1,⟨l1,m1,_,e1⟩,wt1,sz1⟩:=Hm.map_put 133 Tryz.underlying133 m (h:Int) ((M.nd h).1:Int);rw[e1 (look_out M c)]at m1;have m1':Hm.IsM w1 b ((ks ++ [h]).map (ent M)):=by rw[List.map_append];exact m1
   have s1:=s.went hnb wt1;have KA:=s_low s1 h (by omega);rw[Mdl.lowN_in ok hm]at KA;have l1:=ok.lo h hm;have l2:=ok.hi h hm;have KX:=ih w1 _ _ s1 m1' l1.1 (by rw[Mdl.lev_in ok hm];exact l1.2);have KB:Aside (∀u,St u S F0 M→Calls Tryz.prog 65 #[.pointer (some ⟨S,0,none⟩),.int .u32 (h:Int)] u fun e w'=>e = .returned (.int .u32 ((M.nd h).2.2:Int))∧w'=u):=fun u su=>by
    have:=s_high su h (by omega);rwa [Mdl.highN_in ok hm]at this
   have KY:Aside (∀u ls,St u S F0 M→Hm.IsM u b (ls.map (ent M))→Calls Tryz.prog 99 #[.map (some b),.pointer (some ⟨S,0,none⟩),.int .u32 ((M.nd h).2.2:Int)] u (AddQ M b (M.nd h).2.2 ls u)):=fun u ls su mu=>ih u _ ls su mu l2.1 (by rw[Mdl.lev_in ok hm];exact l2.2)
   have fin:Aside (∀p q,AddP M (M.nd h).2.1 (ks ++ [h]) p→AddP M (M.nd h).2.2 ((ks ++ [h]) ++ p) q→AddP M h ks (h :: (p ++ q))):=fun p q=>AddP.join hm
   have wtA:Aside (Went (fun k=>k=b) w w1):=wt1;have kp:Aside (∀u,Went (fun k=>k=b) w1 u→St u S F0 M):=fun u k=>s1.went hnb k
   clear ih l1 l2 e1 sz1 m1 m1' wt1 c c2 hm hnb ok;generalize (M.nd h).1=L at KL hp1;generalize (M.nd h).2.1=lo at KA KX fin;generalize (M.nd h).2.2=hi at KB KY fin;go_enter Tryz.func99,Tryz.ntmps99
   go_wp2_with (first
    | (go_at_call 63;refine KL.mono ?_;clear KL;rintro e w ⟨rfl,rfl⟩)
    | (go_at_call 64;refine KA.mono ?_;clear KA;rintro e w1 ⟨rfl,rfl⟩)
    | (go_at_call 99;refine KX.mono ?_;clear KX;rintro e w3 ⟨rfl,p,m3,a3,wt3⟩;have K4:=KB.out w3 (kp.out w3 wt3);have K5:=KY.out w3 _ (kp.out w3 wt3) m3;have a3A:Aside (AddP M lo (ks ++ [h]) p):=a3;clear m3 a3)
    | (go_at_call 65;refine K4.mono ?_;clear K4;rintro e w3 ⟨rfl,rfl⟩)
    | (go_at_call 99;refine K5.mono ?_;clear K5;rintro e w5 ⟨rfl,q,m5,a5,wt5⟩))
   go_end0
   refine⟨rfl,h :: (p ++ q),?_,fin.out p q a3A.out a5,went_one (went_one wtA.out wt3) wt5⟩;rw[show ks ++ (h :: (p ++ q))=((ks ++ [h]) ++ p) ++ q by simp];exact m5
theorem add_any (hnb:¬F0 b) (d:Nat):∀(w:World) (h:Nat) (ks:List Nat),M.n-M.lev h≤d→St w S F0 M→Hm.IsM w b (ks.map (ent M))→M.isNode h→Calls Tryz.prog 99 #[.map (some b),.pointer (some ⟨S,0,none⟩),.int .u32 (h:Int)] w (AddQ M b h ks w):=by
 induction d with
 | zero =>
  intro w h ks hd s m hh;exact add_step s hnb m hh fun u c _ _ _ hc hl=>by have:=Mdl.lev_le s.ok hc;omega
 | succ d ih =>
  intro w h ks hd s m hh;exact add_step s hnb m hh fun u c ls su mu hc hl=>ih u c ls (by omega) su mu hc
def HsAt (w:World) (ad:Option Addr) (n:Nat) (H:Nat→Nat):Prop:=
 n=0∨∃b off,ad=some ⟨b,off,none⟩∧b<w.heap.size∧∀i,i<n→w.cell? ⟨b,off+i,none⟩=some (.int .u32 (H i:Int))
theorem HsAt.kept {ad:Option Addr}{n:Nat}{H:Nat→Nat}(h:HsAt w ad n H) (k:Below w.heap.size w w'):HsAt w' ad n H:=by
 rcases h with h|⟨b,off,e,hb,hc⟩
 ·exact .inl h
 ·exact .inr ⟨b,off,e,Nat.lt_of_lt_of_le hb k.size,fun i hi=>by rw[k.cell hb];exact hc i hi⟩
theorem HsAt.get {b off n:Nat}{H:Nat→Nat}(h:HsAt w (some ⟨b,off,none⟩) n H){i:Nat}(hi:i<n):w.cell? ⟨b,off+i,none⟩=some (.int .u32 (H i:Int)):=by
 rcases h with h|⟨b',off',e,_,hc⟩
 ·omega
 ·injection e with e
  injection e with e1 e2
  subst e1 e2;exact hc i hi
theorem HsAt.some {ad:Option Addr}{n:Nat}{H:Nat→Nat}(h:HsAt w ad n H) (hn:0<n):∃b off,ad = .some ⟨b,off,none⟩∧b<w.heap.size:=by
 rcases h with h|⟨b,off,e,hb,_⟩
 ·omega
 ·exact⟨b,off,e,hb⟩
structure Rch (M:Mdl) (H:Nat→Nat) (j:Nat) (ks:List Nat):Prop where
 inn:∀k∈ks,k∈M.hs
 closed:Closed M (·∈ks)
 top:∀i,i<j→H i<2∨H i∈ks
 only:∀Q:Nat→Prop,(∀i,i<j→Q (H i))→(∀k∈M.hs,Q k→Q (M.nd k).2.1∧Q (M.nd k).2.2)→∀k∈ks,Q k
theorem Rch.start (M:Mdl) (H:Nat→Nat):Rch M H 0 []:=⟨fun _ h=>absurd h List.not_mem_nil,fun _ h=>absurd h List.not_mem_nil,fun _ hi=>absurd hi (Nat.not_lt_zero _),fun _ _ _ _ h=>absurd h List.not_mem_nil⟩
theorem Rch.step {H:Nat→Nat}{j:Nat}{ks ms:List Nat}(r:Rch M H j ks) (a:AddP M (H j) ks ms):Rch M H (j+1) (ks ++ ms):=by
 refine⟨fun k hk=>(List.mem_append.1 hk).elim (r.inn k) (a.inn k),fun k hk=>?_,fun i hi=>?_,fun Q q cl k hk=>?_⟩
 ·rcases List.mem_append.1 hk with hk|hk
  ·exact⟨(r.closed k hk).1.imp id fun x=>List.mem_append.2 (.inl x),(r.closed k hk).2.imp id fun x=>List.mem_append.2 (.inl x)⟩
  ·exact a.kids k hk
 ·by_cases c:i=j
  ·subst c;exact a.top
  ·exact(r.top i (by omega)).imp id fun x=>List.mem_append.2 (.inl x)
 ·rcases List.mem_append.1 hk with hk|hk
  ·exact r.only Q (fun i hi=>q i (by omega)) cl k hk
  ·exact a.only Q (q j (by omega)) cl k hk
def ReachQ (M:Mdl) (n:Nat) (H:Nat→Nat) (w:World) (e:Ending) (w':World):Prop:=
 ((∀i,i<n→M.isNode (H i))∧∃b ks,e = .returned (.tuple #[.map (Option.some b),.int .i64 0])∧Hm.IsM w' b (ks.map (ent M))∧Rch M H n ks∧Below w.heap.size w w'∧w.heap.size≤b) ∨
 ((∃i,i<n∧¬M.isNode (H i))∧e = .returned (.tuple #[.map Option.none,.int .i64 101])∧Below w.heap.size w w')
theorem below_map {b:Nat}(k:Below w.heap.size w u) (hb:w.heap.size≤b) (q:Went (fun k=>k=b) u w'):Below w.heap.size w w':=
 ⟨q.os.trans k.os,q.tape.trans k.tape,q.output.trans k.output,Nat.le_trans k.size q.size,fun i hi=>(q.block i (Nat.lt_of_lt_of_le hi k.size) (by omega)).trans (k.block i hi)⟩
set_option maxRecDepth 100000 in
set_option maxHeartbeats 2000000 in
theorem reach_any {ad:Option Addr}{n cap:Nat}{H:Nat→Nat}(s:St w S F0 M) (hl:HsAt w ad n H) (hb:∀i,i<n→H i<4294967296) (hn:n≤1000000) :
  Calls Tryz.prog 72 #[.pointer (Option.some ⟨S,0,none⟩),.slice ad n cap] w (ReachQ M n H w):=by
 have hmm:=@run_makeMap Tryz.prog;have hwn:IntKind.i64.wrap (n:Int)=(n:Int):=by rw[IntKind.wrap_i64];omega
 go_enter Tryz.func72,Tryz.ntmps72
 go_wp2_with fail
 have m0:=Hm.IsM.fresh w;have B0:=nb w (.map #[] 0);have s0:=s.below B0;have hl0:=hl.kept B0;have hnb:¬F0 w.heap.size:=fun e=>Nat.lt_irrefl _ (s.lt _ e)
 have B0A:Aside (Below w.heap.size w (w.alloc (.map #[] 0))):=B0;generalize w.alloc (.map #[] 0)=w1 at m0 s0 hl0 B0A ⊢;obtain⟨b,hbe⟩:∃b,w.heap.size=b:=⟨_,rfl⟩
 have lb:Aside (w.heap.size≤b):=Nat.le_of_eq hbe;rw[hbe]at hnb m0
 conv in (occs := *) (Value.map (Option.some w.heap.size)) => all_goals rw [hbe]
 clear hbe hmm B0 s hl;have KA:Aside (∀(u:World) (c:Nat) (ks:List Nat),St u S F0 M→Hm.IsM u b (ks.map (ent M))→M.isNode c→Calls Tryz.prog 99 #[.map (Option.some b),.pointer (Option.some ⟨S,0,none⟩),.int .u32 (c:Int)] u (AddQ M b c ks u)):=fun u c ks su mu hc=>add_any hnb _ u c ks (Nat.le_refl _) su mu hc
 have hbA:Aside (∀i,i<n→H i<4294967296):=hb;have wentA:Aside (∀u,Went (fun k=>k=b) w1 u→St u S F0 M):=fun u k=>s0.went hnb k
 have hlA:Aside (HsAt w1 ad n H):=hl0;have mA:Aside (Hm.IsM w1 b []):=m0;clear hb s0 hnb hl0 m0;go_loopg [12,8] n (fun g si _sh wr=>∃(j:Nat) (ks:List Nat),j+g=n∧si = .int .i64 (j:Int)∧Aside (∀i,i<j→M.isNode (H i))∧Aside (Rch M H j ks)∧Aside (Hm.IsM wr b (ks.map (ent M)))∧Aside (Went (fun k=>k=b) w1 wr))
 case atStart=>exact⟨0,[],by omega,rfl,fun i hi=>absurd hi (Nat.not_lt_zero _),Rch.start M H,mA,⟨rfl,rfl,rfl,Nat.le_refl _,fun _ _ _=>rfl⟩⟩
 case round =>
  obtain⟨j,ks,hj,rfl,hN,hR,hM,hW⟩:=hrel;have hJ:Aside (j+gk=n):=hj;have hjn:j≤n:=by omega
  clear hj;have sr:=wentA.out wr hW.out;by_cases hlt:j<n
  ·have hlt':(j:Int)<(n:Int):=by omega
   obtain⟨bl,off,rfl,hbl⟩:=hlA.out.some (by omega);have hc:wr.cell? ⟨bl,off+j,none⟩=Option.some (.int .u32 (H j:Int)):=by
    have hne:bl≠b:=fun e=>by
     have hc:=hlA.out.get hlt;obtain⟨es,ck,hq,_⟩:=mA.out;rw[e]at hc;unfold World.cell? at hc;rw[hq]at hc;simp at hc
    have:=hW.out.block bl hbl hne;have hc:=hlA.out.get hlt;unfold World.cell? at hc ⊢;rw[this];exact hc
   have hb1:=hbA.out j hlt;have KI:=s_is sr (H j) hb1;have hjw:IntKind.i64.wrap ((j:Int)+1)=(j:Int)+1:=by rw[IntKind.wrap_i64];omega
   by_cases hnd:M.isNode (H j)
   ·rw[Mdl.nodeB_true hnd]at KI;have KX:=KA.out wr (H j) ks sr hM.out hnd;have hN2:Aside (∀i,i<j+1→M.isNode (H i)):=fun i hi=>by
     by_cases c:i=j
     ·rw[c];exact hnd
     ·exact hN.out i (by omega)
    have hst:Aside (∀ms,AddP M (H j) ks ms→Rch M H (j+1) (ks ++ ms)):=fun ms a=>hR.out.step a
    have hltA:Aside (j<n):=hlt;clear hnd hb1 hlt sr;generalize H j=c at KI KX hc hst
    go_wp2_with (first
     | (go_at_call 25;refine KI.mono ?_;clear KI;rintro e wr ⟨rfl,rfl⟩)
     | (go_at_call 99;refine KX.mono ?_;clear KX;rintro e w3 ⟨rfl,p,m3,a3,wt3⟩;have fA:Aside (AddP M c ks p∧Hm.IsM w3 b ((ks ++ p).map (ent M))∧Went (fun k=>k=b) wr w3):=⟨a3,m3,wt3⟩;clear a3 m3 wt3))
    go_roundg (gk-1)
    case measure=>have:=hJ.out;have:=hltA.out;omega
    case rel =>
     have:=hJ.out;have:=hltA.out;exact⟨j+1,ks ++ p,by omega,by go_num,hN2,hst.out p fA.out.1,fA.out.2.1,went_one hW.out fA.out.2.2⟩
   ·rw[Mdl.nodeB_false hnd]at KI;have bad:Aside (∃i,i<n∧¬M.isNode (H i)):=⟨j,hlt,hnd⟩
    clear hnd hb1 hlt KA sr;generalize H j=c at KI hc
    go_wp2_with (first
     | (go_at_call 25;refine KI.mono ?_;clear KI;rintro e wr ⟨rfl,rfl⟩))
    go_ret2
    exact .inr ⟨bad.out,rfl,below_map B0A.out lb.out hW.out⟩
  ·obtain rfl:j=n:=by omega
   clear hlt hJ KA hjn
   go_wp2_with fail
   go_ret2
   exact .inl ⟨hN.out,b,ks,rfl,hM.out,hR.out,below_map B0A.out lb.out hW.out,lb.out⟩
end
end Go.Proofs.YtnnmdkaoiofabaaGreat
namespace Go.Proofs.YtnnmdkaoiofabaaGreat
open Go Go.RowKit
def lvN (M:Mdl) (ks:List Nat) (i:Nat):Nat:=(ks.filter fun k=>decide ((M.nd k).1=i)).length
theorem lvN_le (M:Mdl) (ks:List Nat) (i:Nat):lvN M ks i≤ks.length:=List.length_filter_le _ _
theorem lvN_put (M:Mdl) (ks:List Nat) (k i:Nat):lvN M (ks ++ [k]) i=if i=(M.nd k).1 then lvN M ks (M.nd k).1+1 else lvN M ks i:=by
 unfold lvN;rw[List.filter_append,List.length_append];by_cases c:i=(M.nd k).1
 ·subst c;simp
 ·rw[if_neg c,List.filter_cons,if_neg (by simp;exact fun e=>c e.symm)];simp
theorem lvN_perm {M:Mdl}{ks ls:List Nat}(h:ks.Nodup) (g:ls.Nodup) (e:∀k,k∈ks↔k∈ls) (i:Nat):lvN M ks i=lvN M ls i:=
 (((List.perm_ext_iff_of_nodup h g).2 e).filter _).length_eq
theorem rch_len {M:Mdl}{H:Nat→Nat}{n:Nat}{ks:List Nat}(r:Rch M H n ks) (h:ks.Nodup):ks.length≤M.hs.length:=nodup_le _ _ h r.inn
section
variable {w w' u:World}{S b h:Nat}{F0:Nat→Prop}{M:Mdl}
def SizeQ (M:Mdl) (n:Nat) (H:Nat→Nat) (e:Ending):Prop:=
 ((∀i,i<n→M.isNode (H i))∧∃ks,ks.Nodup∧Rch M H n ks∧e = .returned (.tuple #[.int .i64 (ks.length:Int),.int .i64 0]))∨((∃i,i<n∧¬M.isNode (H i))∧e = .returned (.tuple #[.int .i64 0,.int .i64 101]))
set_option maxRecDepth 100000 in
set_option maxHeartbeats 1000000 in
theorem size_op {ad:Option Addr}{n cap:Nat}{H:Nat→Nat}(s:St w S F0 M) (hl:HsAt w ad n H) (hb:∀i,i<n→H i<4294967296) (hn:n≤1000000) :
  Calls Tryz.prog 30 #[.pointer (some ⟨S,0,none⟩),.slice ad n cap] w fun e w'=>SizeQ M n H e∧Below w.heap.size w w':=by
 have K:=reach_any (cap:=cap) s hl hb hn;clear hl hb hn;go_enter Tryz.func30,Tryz.ntmps30
 go_upto_region 1 with fail
 have Kr:Calls Tryz.prog 72 #[.pointer (some ⟨S,0,none⟩),.slice ad n cap] w fun e w'=>∃(mv:Value) (er k:Nat),e = .returned (.tuple #[mv,.int .i64 (er:Int)])∧(∀ty,(Builtin.len_ #[133] ty #[mv]).run Tryz.prog w' = .ok (.int .i64 (k:Int)) w')∧Aside (SizeQ M n H (.returned (.tuple #[.int .i64 (k:Int),.int .i64 (er:Int)])))∧Below w.heap.size w w':=by
  refine K.mono ?_;rintro e w' (⟨hN,b,ks,rfl,m,r,B,_⟩|⟨bad,rfl,B⟩)
  ·exact⟨_,0,ks.length,rfl,fun ty=>by simpa using Hm.map_len _ Tryz.underlying133 m ty,.inl ⟨hN,ks,keys_once m,r,rfl⟩,B⟩
  ·exact⟨_,101,0,rfl,fun ty=>Hm.map_len_nil _ Tryz.underlying133 w' ty,.inr ⟨bad,rfl⟩,B⟩
 clear K
 go_wp2_with (first
  | (go_at_call 72;refine Kr.mono ?_;clear Kr;rintro e w1 ⟨mv,er,k,rfl,hln,hq,B⟩))
 go_ret2
 exact⟨hq.out,B⟩
def LevelsQ (M:Mdl) (n:Nat) (H:Nat→Nat) (w:World) (e:Ending) (w':World):Prop:=
 ((∀i,i<n→M.isNode (H i))∧∃g ks,ks.Nodup∧Rch M H n ks∧e = .returned (.tuple #[.slice (some ⟨g,0,none⟩) M.n M.n,.int .i64 0])∧w'.rowIs g 3 M.n (fun i=>.int .i64 (lvN M ks i:Int))∧w.heap.size≤g)∨((∃i,i<n∧¬M.isNode (H i))∧e = .returned (.tuple #[.slice none 0 0,.int .i64 101]))
set_option maxRecDepth 100000 in
set_option maxHeartbeats 2000000 in
theorem levels_op {ad:Option Addr}{n cap:Nat}{H:Nat→Nat}(s:St w S F0 M) (hl:HsAt w ad n H) (hb:∀i,i<n→H i<4294967296) (hn:n≤1000000) :
  Calls Tryz.prog 34 #[.pointer (some ⟨S,0,none⟩),.slice ad n cap] w fun e w'=>LevelsQ M n H w e w'∧Below w.heap.size w w':=by
 have K:=reach_any (cap:=cap) s hl hb hn;have ok:=s.ok;have rm:=s.room;clear hl hb hn;by_cases good:∀i,i<n→M.isNode (H i)
 ·have K1:Calls Tryz.prog 72 #[.pointer (some ⟨S,0,none⟩),.slice ad n cap] w fun e w'=>∃b ks,e = .returned (.tuple #[.map (some b),.int .i64 0])∧Aside (Hm.IsM w' b (ks.map (ent M)))∧Aside (Rch M H n ks)∧Aside (Below w.heap.size w w'):=by
   refine K.mono ?_;rintro e w' (⟨hN,b,ks,rfl,m,r,B,_⟩|⟨⟨i,hi,bad⟩,_⟩)
   ·exact⟨b,ks,rfl,m,r,B⟩
   ·exact absurd (good i hi) bad
  clear K;have KV:Aside (∀u,St u S F0 M→Calls Tryz.prog 56 #[.pointer (some ⟨S,0,none⟩)] u fun e w'=>e = .returned (.int .i64 (M.n:Int))∧w'=u):=fun u su=>s_vars su
  have goodA:Aside (∀i,i<n→M.isNode (H i)):=good;have n8:=ok.le8;clear good;go_enter Tryz.func34,Tryz.ntmps34
  go_upto_region 5 with (first
   | (go_at_call 72;refine K1.mono ?_;clear K1;rintro e w1 ⟨b,ks,rfl,m1,r1,B1⟩;have K2:=KV.out w1 (s.below B1.out);have hmk:=Od.make_ints M.n (by omega) w1)
   | (go_at_call 56;refine K2.mono ?_;clear K2;rintro e w1 ⟨rfl,rfl⟩))
  have row2:=World.rowIs_made w1 (.int .i64 0) M.n 3;have B2:Below w.heap.size w (w1.alloc (.cells (madeCells #[.int .i64 0] M.n) 3)):=Rf.below_far B1.out (nb w1 _);have m2:=m1.out.below (nb w1 (.cells (madeCells #[.int .i64 0] M.n) 3));have lg:Aside (w.heap.size≤w1.heap.size):=B1.out.size;clear hmk KV m1 B1;generalize w1.alloc (.cells (madeCells #[.int .i64 0] M.n) 3)=w2 at row2 B2 m2 ⊢;generalize w1.heap.size=g at row2 lg ⊢;have nd:=keys_once m2;have kl:=rch_len r1.out nd;have hl:=ok.len;obtain⟨es,clock,hbm,km⟩:=m2;obtain⟨hr,hI0⟩:=Hm.Iter.start 133 Tryz.underlying133 hbm km
  have B3:Below w.heap.size w (w2.alloc (.mapIter (some b) clock #[] clock)):=Rf.below_far B2 (nb w2 _);have row3:=row2.of_block ((nb w2 (.mapIter (some b) clock #[] clock)).block g row2.lt);have li:Aside (w.heap.size≤w2.heap.size):=B2.size;have gi:Aside (∀u:World,u.rowIs g 3 M.n (fun _=>.int .i64 0)→True):=fun _ _=>trivial
  clear B2 row2 hbm km gi;obtain⟨it,hit⟩:∃it,w2.heap.size=it:=⟨_,rfl⟩
  rw[hit]at hr hI0 li;generalize w2.alloc (.mapIter (some b) clock #[] clock)=w3 at hr hI0 B3 row3;have ksl:ks.length≤32768:=by have:=rm.2;omega
  have inA:Aside (∀k∈ks,(M.nd k).1<M.n):=fun k hk=>ok.lv k (r1.out.inn k hk)
  have ndA:Aside ks.Nodup:=nd;have B3A:Aside (Below w.heap.size w w3):=B3;have row3A:Aside (w3.rowIs g 3 M.n (fun _=>.int .i64 0)):=row3;have hI0A:Aside (Hm.Iter w3 it b (ks.map (ent M)) []):=hI0;clear kl hl nd hit row3 B3 hI0 rm ok s
  go_wp2_with fail
  clear hr;go_loopg [10] (ks.length+1) (fun gg _ wr=>∃us:List Nat,us.length+gg=ks.length+1∧Aside us.Nodup∧Aside (∀k∈us,k∈ks)∧Hm.Iter wr it b (ks.map (ent M)) (us.map fun k:Nat=>(k:Int))∧Aside (wr.rowIs g 3 M.n (fun i=>.int .i64 (lvN M us i:Int)))∧Aside (Below w.heap.size w wr))
  case atStart=>exact⟨[],by simp,by simp[Aside],by simp[Aside],hI0A.out,row3A.out,B3A.out⟩
  case round =>
   clear hI0A row3A B3A;obtain⟨us,hg,hun,hus,hI,hrow,hB⟩:=hrel;have hgA:Aside (us.length+gk=ks.length+1):=hg;clear hg;rcases hI.next 0 with ⟨hall,hnx⟩|⟨t,v,w4,htl,htv,hnx,hI2,hw2,hs2,hen⟩
   ·have fin:Aside (LevelsQ M n H w (.returned (.tuple #[.slice (some ⟨g,0,none⟩) M.n M.n,.int .i64 0])) wr):=by
     refine .inl ⟨goodA.out,g,ks,ndA.out,r1.out,rfl,hrow.out.congr fun i _=>?_,lg.out⟩;rw[lvN_perm hun.out ndA.out fun k=>⟨hus.out k,fun hk=>?_⟩];have:=hall _ (List.mem_map.2 ⟨k,hk,rfl⟩);obtain⟨k',hk',e⟩:=List.mem_map.1 this;have e:(k':Int)=(k:Int):=e;exact(show k'=k by omega) ▸ hk'
    clear hall
    go_wp2_with fail
    go_ret2
    exact⟨fin.out,hB.out⟩
   ·obtain⟨k,hk,hkt⟩:=List.mem_map.1 htl;have e1:(k:Int)=t:=congrArg Prod.fst hkt;have e2:((M.nd k).1:Int)=v:=congrArg Prod.snd hkt;subst e1 e2;have ku:k ∉ us:=fun q=>htv (List.mem_map.2 ⟨k,q,rfl⟩)
    have hlt:us.length<ks.length:=by
     have:=nodup_le (k :: us) ks (List.nodup_cons.2 ⟨ku,hun.out⟩) fun x hx=>by
      rcases List.mem_cons.1 hx with rfl|hx
      ·exact hk
      ·exact hus.out x hx
     simp at this;omega
    have hne:g≠it:=fun e=>by
     obtain⟨_,_,_,_,hi⟩:=hI.blocks;obtain⟨cs,hc,_⟩:=hrow.out;rw[e,hi]at hc;cases hc
    have hnb:g≠b:=fun e=>by
     obtain⟨_,_,_,hi,_⟩:=hI.blocks;obtain⟨cs,hc,_⟩:=hrow.out;rw[e,hi]at hc;cases hc
    have row4:=hrow.out.of_block (hw2.block g hrow.out.lt hne);have lv:=inA.out k hk;have hc4:=row4.cell lv;have hf4:=row4.frozen (M.nd k).1;have row5:=row4.set (M.nd k).1 (.int .i64 ((lvN M us (M.nd k).1:Int)+1));have B4:Below w.heap.size w w4:=below_map hB.out li.out hw2;have sz:lvN M us (M.nd k).1≤32768:=by have:=lvN_le M us (M.nd k).1;omega
    have fin:Aside (∃us':List Nat,us'.length=us.length+1∧us'.Nodup∧(∀k∈us',k∈ks)∧Hm.Iter (w4.setCell ⟨g,(M.nd k).1,none⟩ (.int .i64 ((lvN M us (M.nd k).1:Int)+1))) it b (ks.map (ent M)) (us'.map fun k:Nat=>(k:Int))∧(w4.setCell ⟨g,(M.nd k).1,none⟩ (.int .i64 ((lvN M us (M.nd k).1:Int)+1))).rowIs g 3 M.n (fun i=>.int .i64 (lvN M us' i:Int))∧Below w.heap.size w (w4.setCell ⟨g,(M.nd k).1,none⟩ (.int .i64 ((lvN M us (M.nd k).1:Int)+1)))):=by
     refine⟨us ++ [k],by simp,?_,fun x hx=>?_,?_,row5.congr fun i _=>?_,?_⟩
     ·rw[List.nodup_append];exact⟨hun.out,by simp,fun a ha c hc e=>by simp at hc;subst hc;subst e;exact ku ha⟩
     ·rcases List.mem_append.1 hx with hx|hx
      ·exact hus.out x hx
      ·rw[List.mem_singleton]at hx;subst hx;exact hk
     ·rw[List.map_append];exact hI2.same (Below.heap_setCell _ _ _ _ (fun e=>hnb e.symm)) (Below.heap_setCell _ _ _ _ (fun e=>hne e.symm))
     ·rw[lvN_put];by_cases c:i=(M.nd k).1
      ·rw[if_pos c,if_pos c];simp
      ·rw[if_neg c,if_neg c]
     ·exact B4.trans ⟨rfl,rfl,rfl,by simp[World.setCell],fun i hi=>Below.heap_setCell _ _ _ _ (show i≠g by have:=lg.out;omega)⟩
    have hltA:Aside (us.length<ks.length):=hlt;clear htl htv hkt hk ku hlt row4 row5 B4 hI hI2 hw2 hs2 hrow hun hus hB inA hne hnb;generalize lvN M us (M.nd k).1=x at hc4 sz fin;generalize (M.nd k).1=L at hc4 hf4 lv fin hnx hen;have hL0:((L:Int)).toNat=L:=by omega
    have hL1:(L:Int)<(M.n:Int):=by omega
    have hw:IntKind.i64.wrap ((x:Int)+1)=(x:Int)+1:=by rw[IntKind.wrap_i64];omega
    go_wp2_with fail
    go_roundg (gk-1)
    case measure=>have:=hgA.out;have:=hltA.out;omega
    case rel =>
     obtain⟨us',q1,q2,q3,q4,q5,q6⟩:=fin.out;exact⟨us',by have:=hgA.out;have:=hltA.out;omega,q2,q3,q4,q5,q6⟩
 ·have K1:Calls Tryz.prog 72 #[.pointer (some ⟨S,0,none⟩),.slice ad n cap] w fun e w'=>e = .returned (.tuple #[.map none,.int .i64 101])∧Aside (∃i,i<n∧¬M.isNode (H i))∧Below w.heap.size w w':=by
   refine K.mono ?_;rintro e w' (⟨hN,_⟩|⟨bad,rfl,B⟩)
   ·exact absurd hN good
   ·exact⟨rfl,bad,B⟩
  clear K good ok rm;go_enter Tryz.func34,Tryz.ntmps34
  go_wp2_with (first
   | (go_at_call 72;refine K1.mono ?_;clear K1;rintro e w1 ⟨rfl,bad,B1⟩))
  go_ret2
  exact⟨.inr ⟨bad.out,rfl⟩,B1⟩
end
end Go.Proofs.YtnnmdkaoiofabaaGreat
