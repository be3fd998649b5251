/-
  The reference's lists of events of layer 10, newly made. Condition: the numbers of points and lists are small.
-/
import Derived.Test.YtbkgghhngeibhaaGreatDoorLagBase
import Derived.Test.YtbkgghhngeibhaaGreatDoorPolLists
import Derived.Lib.AppendZeros
namespace Go.Proofs.YtbkgghhngeibhaaGreatDoor
open Go.RowKit
def blE (n:Nat) (k:Int):List Ev:=((List.range n).filter (fun i=>decide (k<=((i:Nat):Int)))).map (fun i=>((2:Int),((i:Nat):Int),(0:Int)))
def iE (n:Nat):List Ev:=(wpE n n++batE n)++prE n n
def ftE (n:Nat) (k:Int):List Ev:=iE n++blE n k
def alE (n:Nat) (k:Int):Nat->List Ev
 | 0=>[]
 | i+1=>alE n k i++((4:Int),(i:Int),(0:Int))::ftE n k
theorem blE_next (j:Nat) (k:Int):blE (j+1) k=if k<=(j:Int) then blE j k++[((2:Int),(j:Int),(0:Int))] else blE j k:=by
 unfold blE
 rw[List.range_succ,List.filter_append]
 by_cases h:k<=(j:Int)
 ·rw[if_pos h];simp[h]
 rw[if_neg h];simp[h]
theorem blE_le (n:Nat) (k:Int):(blE n k).length<=n:=by
 unfold blE
 rw[List.length_map]
 exact Nat.le_trans (List.length_filter_le _ _) (by simp)
theorem iE_le {n:Nat} (hn:n<=90):(iE n).length<=20000:=by
 unfold iE
 have a1:=wpE_length n n;have a2:n*n<=90*90:=Nat.mul_le_mul hn hn;have a3:=batE_le n
 rw[List.length_append,List.length_append,prE_length]
 omega
end Go.Proofs.YtbkgghhngeibhaaGreatDoor
