/-
  slices.Equal of two lists of elements, slices.Grow of nil and slices.Concat of two lists, of elements and of bytes, over this seat's translation. Condition: the lists are short.
-/
import Derived.Test.YtpfjgifcjengkaaGreatDoorFieldGrp
import Derived.Test.YtpfjgifcjengkaaGreatDoorInvAll
import Derived.Test.YtpfjgifcjengkaaGreatDoorPolRefer
import Derived.Lib.AppendZeros
namespace Go.Proofs.YtpfjgifcjengkaaGreatDoor
open Lib (hid)
open Go.RowKit
attribute [local go_sem ↓] Go.wp_at_zero Go.wp_at_succ
set_option maxRecDepth 100000
set_option maxHeartbeats 4000000
theorem eleq_any (xs:List Nat) (u v:Value) (w:World) (hU:Ls w u xs) (hV:Ls w v xs) :
  Calls Tryz.prog 34 #[u,v] w fun e w'=>e=.returned (.bool true)/\Off (fun _=>False) w w':=by
 obtain⟨a,cap,rfl,hL⟩:=hU.open
 obtain⟨a2,cap2,rfl,hM⟩:=hV.open
 clear hU hV
 obtain⟨n,hn⟩:∃ n,n=xs.length:=⟨_,rfl⟩
 rw[<-hn]at hL hM ⊢
 have HL:=hid hL
 have HM:=hid hM
 have hn2:=hL.len.2
 have k1:((n:Int) != (n:Int))=false:=by simp
 clear hn hL hM
 go_enter Tryz.func34,Tryz.ntmps34
 go_wp2_with fail
 clear k1
 go_loopw [13] (fun i wr=>∃ k:Nat,k<=n/\i=.int .i64 k/\Off (fun _=>False) w wr) (fun i _=>n-(intOf i).toNat)
 case atStart=>exact⟨0,Nat.zero_le _,rfl,Off.refl _ w⟩
 case round =>
  obtain⟨k,hk,rfl,hO⟩:=hrel
  by_cases hlt:k<n
  ·obtain⟨z,b,off,hzk,rfl,c0,c1,c2,c3⟩:=(HL.out.off hO (fun _ _ _ c=>c)).at hlt
   obtain⟨z2,b2,off2,hck,rfl,d0,d1,d2,d3⟩:=(HM.out.off hO (fun _ _ _ c=>c)).at hlt
   obtain rfl:z=z2:=by rw[hzk]at hck;simpa using hck
   obtain⟨wq,hwq⟩:∃ wq,wq=wr:=⟨_,rfl⟩
   rw[<-hwq]at hO c0 c1 c2 c3 d0 d1 d2 d3 ⊢
   have HK1:=hid (fun(A:World) (h:Off (fun _=>False) wq A)=>(⟨h.cell c0 (fun c=>c),h.cell c1 (fun c=>c),h.cell c2 (fun c=>c),h.cell c3 (fun c=>c)⟩:elAt A b (off+k*4) z))
   have HK2:=hid (fun(A:World) (h:Off (fun _=>False) wq A)=>(⟨h.cell d0 (fun c=>c),h.cell d1 (fun c=>c),h.cell d2 (fun c=>c),h.cell d3 (fun c=>c)⟩:elAt A b2 (off2+k*4) z))
   have HO:=hid hO
   have i1:(k:Int)<(n:Int):=by omega
   have w2:IntKind.i64.wrap ((k:Int)+1)=(k:Int)+1:=by rw[IntKind.wrap_i64];omega
   clear hO hwq hzk hck c0 c1 c2 c3 d0 d1 d2 d3
   go_upto_region 6 with fail
   obtain⟨x16,hx⟩:∃ x:Value,x=.slice (some ⟨b,off,none⟩) n cap:=⟨_,rfl⟩
   have X16:=hid hx
   clear hx
   obtain⟨x17,hx⟩:∃ x:Value,x=.int .i64 k:=⟨_,rfl⟩
   have X17:=hid hx
   clear hx
   obtain⟨x18,hx⟩:∃ x:Value,x=.pointer (some ⟨b,off+k*4,none⟩):=⟨_,rfl⟩
   have X18:=hid hx
   clear hx
   obtain⟨x19,hx⟩:∃ x:Value,x=V z:=⟨_,rfl⟩
   have X19:=hid hx
   clear hx
   obtain⟨x20,hx⟩:∃ x:Value,x=.slice (some ⟨b2,off2,none⟩) n cap2:=⟨_,rfl⟩
   have X20:=hid hx
   clear hx
   obtain⟨x21,hx⟩:∃ x:Value,x=.int .i64 k:=⟨_,rfl⟩
   have X21:=hid hx
   clear hx
   obtain⟨x22,hx⟩:∃ x:Value,x=.pointer (some ⟨b2,off2+k*4,none⟩):=⟨_,rfl⟩
   have X22:=hid hx
   clear hx
   obtain⟨x23,hx⟩:∃ x:Value,x=V z:=⟨_,rfl⟩
   have X23:=hid hx
   clear hx
   obtain⟨x24,hx⟩:∃ x:Value,x=.bool false:=⟨_,rfl⟩
   have X24:=hid hx
   clear hx
   refine wp_region_inv (fun a0 l a' w'=>a'=(fill a0 16 [sel (l 0) x16 u16,sel (l 1) x17 u17,sel (l 2) x18 u18,sel (l 3) x19 u19,sel (l 4) x20 u20,sel (l 5) x21 u21,sel (l 6) x22 u22,sel (l 7) x23 u23,sel (l 8) x24 u24,u25])/\Off (fun _=>False) wq w') (by kernel_rfl) (by kernel_rfl) ?_ ⟨?_,?_,?_,?_,?_,?_,?_,?_,?_,trivial⟩ ?_
   ·refine⟨?_,(Off.refl _ wq).drew⟩
    simp only[XF,sel_start]
   all_goals try (rintro l a wr ⟨ha,hO⟩ hl hd K' hK)
   ·as_aux_lemma =>
     have hx:=X16.out;subst hx
     simp only[XF]at ha
     subst ha
     rw[if_pos (by rfl)]
     go_simp
     refine hK.out _ _ ⟨?_,hO⟩
     simp only[XF,sel_new]
     rfl
   ·as_aux_lemma =>
     have hx:=X17.out;subst hx
     simp only[XF]at ha
     subst ha
     rw[if_pos (by rfl)]
     go_simp
     refine hK.out _ _ ⟨?_,hO⟩
     simp only[XF,sel_new]
     rfl
   ·as_aux_lemma =>
     have d0:=hd 0 (by decide)
     have d1:=hd 1 (by decide)
     have hx:=X16.out;subst hx
     have hx:=X17.out;subst hx
     have hx:=X18.out;subst hx
     simp only[XF,sel_of d0,sel_of d1]at ha
     subst ha
     rw[if_pos (by rfl)]
     go_simp
     refine hK.out _ _ ⟨?_,hO⟩
     simp only[XF,sel_new,sel_dep d0,sel_dep d1]
     rfl
   ·as_aux_lemma =>
     have d2:=hd 2 (by decide)
     have hx:=X18.out;subst hx
     have hx:=X19.out;subst hx
     simp only[XF,sel_of d2]at ha
     subst ha
     obtain⟨p0,p1,p2,p3⟩:=HK1.out wr hO
     rw[if_pos (by rfl)]
     go_simp
     refine hK.out _ _ ⟨?_,hO⟩
     simp only[XF,sel_new,sel_dep d2]
     rfl
   ·as_aux_lemma =>
     have hx:=X20.out;subst hx
     simp only[XF]at ha
     subst ha
     rw[if_pos (by rfl)]
     go_simp
     refine hK.out _ _ ⟨?_,hO⟩
     simp only[XF,sel_new]
     rfl
   ·as_aux_lemma =>
     have hx:=X21.out;subst hx
     simp only[XF]at ha
     subst ha
     rw[if_pos (by rfl)]
     go_simp
     refine hK.out _ _ ⟨?_,hO⟩
     simp only[XF,sel_new]
     rfl
   ·as_aux_lemma =>
     have d4:=hd 4 (by decide)
     have d5:=hd 5 (by decide)
     have hx:=X20.out;subst hx
     have hx:=X21.out;subst hx
     have hx:=X22.out;subst hx
     simp only[XF,sel_of d4,sel_of d5]at ha
     subst ha
     rw[if_pos (by rfl)]
     go_simp
     refine hK.out _ _ ⟨?_,hO⟩
     simp only[XF,sel_new,sel_dep d4,sel_dep d5]
     rfl
   ·as_aux_lemma =>
     have d6:=hd 6 (by decide)
     have hx:=X22.out;subst hx
     have hx:=X23.out;subst hx
     simp only[XF,sel_of d6]at ha
     subst ha
     obtain⟨p0,p1,p2,p3⟩:=HK2.out wr hO
     rw[if_pos (by rfl)]
     go_simp
     refine hK.out _ _ ⟨?_,hO⟩
     simp only[XF,sel_new,sel_dep d6]
     rfl
   ·as_aux_lemma =>
     have d3:=hd 3 (by decide)
     have d7:=hd 7 (by decide)
     have hx:=X19.out;subst hx
     have hx:=X23.out;subst hx
     have hx:=X24.out;subst hx
     simp only[XF,sel_of d3,sel_of d7]at ha
     subst ha
     have e1:=equalIn_elem_same
     rw[if_pos (by rfl)]
     go_simp
     refine hK.out _ _ ⟨?_,hO⟩
     simp only[XF,sel_new,sel_dep d3,sel_dep d7]
     rfl
   rintro l a wc ⟨ha,hO⟩ hd
   simp only[XF,sel_of (hd 0 (by decide)),sel_of (hd 1 (by decide)),sel_of (hd 2 (by decide)),sel_of (hd 3 (by decide)),sel_of (hd 4 (by decide)),sel_of (hd 5 (by decide)),sel_of (hd 6 (by decide)),sel_of (hd 7 (by decide)),sel_of (hd 8 (by decide))]at ha
   subst ha
   have hx:=X24.out;subst hx
   have HOe:=hid (HO.out.trans hO (fun _ _ c=>c))
   clear hO hd
   go_wp2
   go_roundw
   case rel=>exact⟨k+1,by omega,by simp,HOe.out⟩
   case measure=>simp[intOf];omega
  obtain rfl:k=n:=by omega
  have i1:¬(k:Int)<(k:Int):=by omega
  go_wp2
  go_ret
  exact⟨rfl,hO⟩
def RowL (B:Nat) (W:World) (v:Value) (xs:List Nat):Prop:=W.ownsRow B 34 4 v xs.length (flat4 xs)
end Go.Proofs.YtpfjgifcjengkaaGreatDoor
