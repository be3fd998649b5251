/-
  Lists of numbers or elements that lie somewhere; the statements' same; the reference's Eval of layer 8. Conditions: the modulus is a number above 1 of four words, the numbers lie below it.
  The reference's Add of layer 8. Conditions: the modulus is a number above 1 of four words, the numbers lie below it, the lists are short.
-/
import Derived.Test.YtpfjgifcjengkaaGreatDoorNumsT
import Derived.Deep.OwnRows
import Derived.Shelf.Bytes.SlEqualAll
import Derived.Deep.DeepCutAuto
import Derived.Deep.DrawnRows
import Derived.Deep.RegionHeld3
import Derived.Laws.AppendOwnNone
import Derived.Lib.Hide
import Derived.Lib.LaidTab
import Derived.LoopIn
import Derived.LoopNIn
import Derived.MakeChecks
import Derived.OpenShut
import Derived.OwnWalkIn
import Derived.ProofKit
import Derived.RangeFuncBound
import Derived.RangeFuncNested
import Derived.Shelf.RegionOpen
import Derived.Shelf.Spec.BitsCarry
import Derived.StillTailTactics
import Derived.Test.YtpfjgifcjengkaaGreatDoorChecked
import Derived.WalkLawsBesides
import Derived.WalkSpells
namespace Go.Proofs.YtpfjgifcjengkaaGreatDoor
section
open Go.RowKit
attribute [local go_sem ↓] Go.wp_at_zero Go.wp_at_succ
def Ls (w:World) (v:Value) (xs:List Nat):Prop:=LsAt w v xs (fun _=>True)
theorem Ls.off {w w':World} {v:Value} {xs:List Nat} (h:Ls w v xs) (ho:Off (fun _=>False) w w'):Ls w' v xs:=LsAt.off h ho (fun _ _ _ c=>c)
theorem Ls.lt {w:World} {v:Value} {xs:List Nat} (h:Ls w v xs):LsAt w v xs (fun k=>k<w.heap.size/\¬False):=LsAt.mono h (fun _ hk _=>⟨hk,fun c=>c⟩)
theorem Ls.of {w:World} {v:Value} {xs:List Nat} {S:Nat->Prop} (h:LsAt w v xs S):Ls w v xs:=h.mono (fun _ _ _=>trivial)
theorem Ls.open {w:World} {v:Value} {xs:List Nat} (h:Ls w v xs):∃ a cap,v=.slice a xs.length cap/\LsAt w (.slice a xs.length cap) xs (fun k=>k<w.heap.size/\¬False):=by
 have h2:=Ls.lt h
 obtain⟨a,cap,hv,_⟩:=h
 exact⟨a,cap,hv,hv▸h2⟩
theorem Ls.nil (w:World):Ls w (.slice none 0 0) []:=⟨none,0,rfl,Nat.zero_le _,fun h=>by simp at h⟩
theorem Ls.of_nums {w:World} {b cap:Nat} {T:TypeId} {xs:List Nat} (h:NumsAt w b T xs) (hl:xs.length<=100000) (k:Nat) (hk:k<=xs.length):Ls w (.slice (some ⟨b,0,none⟩) k cap) (xs.take k):=by
 refine⟨some ⟨b,0,none⟩,cap,by rw[List.length_take,Nat.min_eq_left hk],by rw[List.length_take];omega,fun _=>⟨b,0,rfl,trivial,fun j x hx=>?_⟩⟩
 rw[List.getElem?_take]at hx
 split at hx
 ·have:=NumsAt.cell h hx;rw[Nat.zero_add];exact this
 cases hx
theorem Ls.of_all {w:World} {b cap:Nat} {T:TypeId} {xs:List Nat} (h:NumsAt w b T xs) (hl:xs.length<=100000):Ls w (.slice (some ⟨b,0,none⟩) xs.length cap) xs:=by
 have:=Ls.of_nums (cap:=cap) h hl xs.length (Nat.le_refl _)
 rwa [List.take_length]at this
def Lx (l:Nat->Bool) (i j:Nat) (u:Value) (b:Nat) (w:World) (xs:List Nat):Prop:=l i=true->LsAt w u xs (fun k=>l j=true->k≠b)
theorem LsAt.at {w:World} {a:Option Addr} {n cap:Nat} {xs:List Nat} {S:Nat->Prop} (h:LsAt w (.slice a n cap) xs S) {k:Nat} (hk:k<n):∃ x b off,xs[k]?=some x/\a=some ⟨b,off,none⟩/\elAt w b (off+k*4) x:=by
 obtain⟨hl,_⟩:=h.len
 have hx:xs[k]?=some xs[k]:=List.getElem?_eq_getElem (by omega)
 obtain⟨b,off,ha,_,hc⟩:=h.get hx
 exact⟨_,b,off,hx,ha,hc⟩
end
section
open Go.RowKit
attribute [local go_sem ↓] Go.wp_at_zero Go.wp_at_succ
theorem vec_info:(Tryz.prog.info? 33).map (fun i=>(i.zero,i.size,i.bytes))=some (some (.agg #[.int .u64 0,.int .u64 0,.int .u64 0,.int .u64 0]),4,32):=by kernel_rfl
end
end Go.Proofs.YtpfjgifcjengkaaGreatDoor
