/-
  The library's count of bits.
-/
import Derived.Test.YtnnmdkaoiofabaaGreatProg
import Derived.Lib.Strings
import Derived.Lib.Slices
import Derived.Lib.Small
import Derived.Lib.Walk
import Derived.Lib.BitFns
namespace Go.Proofs.YtnnmdkaoiofabaaGreat.Rs
open Go
theorem bl_spec : ∀(m x:Nat),x≤m→x<65536→x<2^Lib.bitLen x∧(0<x→2^Lib.bitLen x≤2*x):=by
 intro m;induction m with
 | zero =>
  intro x h _
  have:x=0:=by omega
  subst this;exact⟨by decide,fun e=>by omega⟩
 | succ m ih =>
  intro x h hx;by_cases h0:x=0
  ·subst h0;exact⟨by decide,fun e=>by omega⟩
  ·obtain⟨h1,h2⟩:=ih (x / 2) (by omega) (by omega);rw[Lib.bitLen_half x h0 (by omega),Nat.pow_add,Nat.pow_one];refine⟨by omega,fun _=>?_⟩;by_cases h3:x / 2=0
   ·have hb:Lib.bitLen (x / 2)=0:=by rw[h3];rfl
    rw[hb];omega
   ·have:=h2 (by omega);omega
set_option maxHeartbeats 4000000 in
set_option maxRecDepth 100000 in
theorem len64_any (x:Nat) (hx:x<65536) (w:World) :
  Calls Tryz.prog 137 #[.int .u64 (x:Int)] w fun e w'=>e = .returned (.int .i64 ((Lib.bitLen x:Nat):Int))∧w'=w:=by
 have g1:¬(4294967296:Int)≤(x:Int):=by omega
 have g2:¬(65536:Int)≤(x:Int):=by omega
 by_cases g3:(256:Int)≤(x:Int)
 ·go_enter Tryz.func137,Tryz.ntmps137
  go_wp2
  go_ret
  refine⟨congrArg Ending.returned (congrArg (Value.int IntKind.i64) ?_),rfl⟩;rw[Lib.len8_of ((x:Int) / 256 % 256) (by omega) (by omega),show ((x:Int) / 256 % 256).toNat=x / 256 by omega];have l:=Lib.bitLen_le (x / 256) 8 (by omega) (by omega);have s:=Lib.bitLen_shift8 x (by omega) (by omega);omega
 ·go_enter Tryz.func137,Tryz.ntmps137
  go_wp2
  go_ret
  refine⟨congrArg Ending.returned (congrArg (Value.int IntKind.i64) ?_),rfl⟩;rw[Lib.len8_of ((x:Int) % 256) (by omega) (by omega),show ((x:Int) % 256).toNat=x by omega];have l:=Lib.bitLen_le x 8 (by omega) (by omega);omega
set_option maxHeartbeats 4000000 in
theorem len_any (x:Nat) (hx:x<65536) (w:World) :
  Calls Tryz.prog 115 #[.int .u64 (x:Int)] w fun e w'=>e = .returned (.int .i64 ((Lib.bitLen x:Nat):Int))∧w'=w:=by
 have K:=len64_any x hx w;go_enter Tryz.func115,Tryz.ntmps115
 go_wp2_with (go_at_call 137;refine K.mono ?_;clear K;rintro e w' ⟨rfl,rfl⟩)
 go_ret
 exact⟨rfl,rfl⟩
end Go.Proofs.YtnnmdkaoiofabaaGreat.Rs
