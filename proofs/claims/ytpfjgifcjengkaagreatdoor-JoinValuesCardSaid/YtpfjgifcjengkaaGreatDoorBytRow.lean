/-
  What a region's invariant says of slices of bytes that its calls return. No condition.
  Parts of a slice of bytes, for seats with numbers (the same as ShaPart's). Conditions: as each says.
-/
import Derived.Test.YtpfjgifcjengkaaGreatDoorBytLow
import Derived.Test.YtpfjgifcjengkaaGreatDoorNumsT
import Derived.BigQuiet
import Derived.Deep.DeepCutAuto
import Derived.Deep.DrawnRows
import Derived.Deep.OwnRows
import Derived.Deep.RegionHeld3
import Derived.Laws.AppendOwnNone
import Derived.Lib.Hide
import Derived.Lib.LaidTab
import Derived.MakeChecks
import Derived.OpenShut
import Derived.ProofKit
import Derived.RangeFuncNested
import Derived.Shelf.Bytes.SlEqualAll
import Derived.Shelf.Spec.BitsCarry
import Derived.StillTailTactics
import Derived.Test.YtpfjgifcjengkaaGreatDoorChecked
import Derived.WalkLawsBesides
import Derived.WalkSpells
namespace Go.Proofs.YtpfjgifcjengkaaGreatDoor
section
open Go.RowKit
def Mk (l:Nat->Bool) (i:Nat) (u:Value) (w:World) (bs:List Nat):Prop:=l i=true->SvAt w u bs
theorem Mk.start (i:Nat) (u:Value) (w:World) (bs:List Nat):Mk (fun _=>false) i u w bs:=fun h=>by cases h
theorem Mk.new {l:Nat->Bool} {i:Nat} {u:Value} {w:World} {bs:List Nat} (h:SvAt w u bs):Mk (upd l i) i u w bs:=fun _=>h
theorem Mk.keep {l:Nat->Bool} {i:Nat} {u:Value} {w w':World} {bs:List Nat} (h:Mk l i u w bs) (ho:Off (fun _=>False) w w') {k:Nat} (hk:(k==i)=false):Mk (upd l k) i u w' bs:=fun hl=>by
 rw[upd_k l hk]at hl;exact(h hl).off ho
def MkT (l:Nat->Bool) (i d:Nat) (u:Value) (w:World) (bs:List Nat):Prop:=l i=true->l d=false->SvAt w u bs
structure MkB (l:Nat->Bool) (i:Nat) (u:Value) (b n:Nat) (W0 w:World) (X:Obj):Prop where
 ptr:l i=true->u=.slice (some ⟨b,0,none⟩) n n
 new:l i=true->W0.heap.size<=b
 now:l i=true->w.heap[b]?=some X
theorem Slot.void {l:Nat->Bool} {i j:Nat} {u v:Value} (h:l j=false) (hk:(i==j)=false):Slot (upd l i) j u v:=fun hl=>by
 rw[upd_k l hk,h]at hl;cases hl
theorem Dep.via {l:Nat->Bool} {i s:Nat} (h:Dep l i s) (hs:l s=true):l i=true:=by
 cases hi:l i with
 | true=>rfl
 | false=>rw[h hi]at hs;cases hs
end
section
open Go.RowKit
set_option maxRecDepth 100000
set_option maxHeartbeats 4000000
theorem byte_elem:Tryz.prog.elem 40=5:=by simp[Program.elem,Tryz.underlying40]
end
end Go.Proofs.YtpfjgifcjengkaaGreatDoor
