/-
  SiftTwice, walked.
-/
import Derived.Test.YtnnmdkaoiofabaaGreatSfV
namespace Go.Proofs.YtnnmdkaoiofabaaGreat.Sf
open Go Go.RowKit
open Rf (tab word same IsTab)
open Sw (tab_kept)
open Mk (HsAt at3)
theorem Unl.le {H:Nat→Nat} {n:Nat} {zs:List Nat} (u:Unl H n zs):zs.length≤n:=by
 have:=nodup_le zs ((List.range n).map H) (u.up.imp fun h=>Nat.ne_of_lt h) fun x hx=>by
  obtain ⟨_,i,hi,e⟩:=(u.mem x).1 hx
  exact List.mem_map.2 ⟨i,List.mem_range.2 hi,e⟩
 rwa [List.length_map,List.length_range] at this
end Go.Proofs.YtnnmdkaoiofabaaGreat.Sf
