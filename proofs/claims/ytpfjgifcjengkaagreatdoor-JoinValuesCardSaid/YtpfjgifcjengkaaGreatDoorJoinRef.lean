/-
  The reference of layer 17 over this seat's translation: Polynomials, Values, Combine. Conditions: the shares are accepted, or their list is short; the payloads have at most 1000 elements.
-/
import Derived.Test.YtpfjgifcjengkaaGreatDoorParEnd
import Derived.Shelf.Bits.Mul64
import Derived.Test.YtpfjgifcjengkaaGreatDoorProg
namespace Go.Proofs.YtpfjgifcjengkaaGreatDoor
open Go.RowKit
attribute [local go_sem ↓] Go.wp_at_zero Go.wp_at_succ
set_option maxRecDepth 100000
set_option maxHeartbeats 4000000
theorem shs_take (a:Option Addr) (n cap k:Nat) (hk:k<=n) (hc:n<=cap):∃ a',(∀ W,(Instr.slice 22 (.slice a n cap) none (some (.int .i64 k)) none).run Tryz.prog W=.ok (.slice a' k cap) W)/\∀ W S l,ShsAt W (.slice a n cap) l S->ShsAt W (.slice a' k cap) (l.take k) S:=by
 obtain⟨a',h1,h2⟩:=shs_h a n cap k hk hc
 refine⟨a',h1,fun W S l h=>?_⟩
 obtain⟨L,e1,e2,e3,e4,e5⟩:=h.lift
 have h3:=(h2 W S L e4).shs (S':=S) (by rw[List.length_take];omega) (fun x hx=>e5 x (List.mem_of_mem_take hx)) (fun _ _ c=>c)
 rw[List.map_take,e1]at h3
 exact h3
end Go.Proofs.YtpfjgifcjengkaaGreatDoor
