/-
  The contract of poly's Mul over this seat's translation, with any tape. Conditions: the field's constants are those of its modulus, the lists' elements are forms of values, and lie outside the tape; the tape has room for the events.
-/
import Derived.Test.YtggebccgiigboaaDoorPolCore
import Derived.Test.YtggebccgiigboaaDoorMontOps
import Derived.Test.YtggebccgiigboaaDoorInvAll
import Derived.Laws.IdiomCopy
namespace Go.Proofs.YtggebccgiigboaaDoor
open Go.RowKit
attribute [local go_sem] Oper.semAt_some wide_fn
/-- The events of Mul for the indices that the outer loop has visited. -/
def pairE (n m : Nat) (pre : List Nat) : List Ev := pre.flatMap (fun x => (List.range m).map (fun y => ((3 : Int),((x % n : Nat) : Int),((y % m : Nat) : Int))))
theorem pairE_snoc (n m : Nat) (pre : List Nat) (x : Nat) : pairE n m (pre ++ [x]) = pairE n m pre ++ (List.range m).map (fun y => ((3 : Int),((x % n : Nat) : Int),((y % m : Nat) : Int))) := by simp [pairE,List.flatMap_append]
theorem pairE_length (n m : Nat) : ∀ pre,(pairE n m pre).length = pre.length * m := by
 refine snoc_ind (by simp [pairE]) (fun pre x ih => ?_)
 rw [pairE_snoc,List.length_append,ih]; simp [Nat.add_mul]
/-- What the loops of Mul keep: the boxes,the product so far,the lists,the tape. -/
structure MulC (w W : World) (id : Int) (p i0 r s bt bf b7 arr sb lb N : Nat) (a : Option Addr) (n cap : Nat) (xs : List Nat) (Sl : Nat -> Prop) (a2 : Option Addr) (m cap2 : Nat) (ys : List Nat) (Sl2 : Nat -> Prop) (q : Option Addr) (es : List Ev) (S S' : Nat -> Prop) (L : List Nat) : Prop where
 tb : W.heap[bt]? = some (.cells #[.pointer q] 46 (0,0))
 fb : W.heap[bf]? = some (.cells #[.int .i64 id,.int .u64 (wd p 0 : Int),.int .u64 (wd p 1 : Int),.int .u64 (wd p 2 : Int),.int .u64 (wd p 3 : Int),.int .u64 (i0 : Int),.int .u64 (wd r 0 : Int),.int .u64 (wd r 1 : Int),.int .u64 (wd r 2 : Int),.int .u64 (wd r 3 : Int),.int .u64 (wd s 0 : Int),.int .u64 (wd s 1 : Int),.int .u64 (wd s 2 : Int),.int .u64 (wd s 3 : Int)] 31 (0,0))
 bb : W.heap[b7]? = some (.cells #[.slice a2 m cap2] 34 (0,0))
 ars : NumsAt W arr 29 L
 sx : W.heap[sb]? = some (.cells #[.slice (some ⟨arr,0,none⟩) N N] 34 (0,0))
 src : Rl lb (.slice a n cap) xs Sl W
 oth : LsAt W (.slice a2 m cap2) ys Sl2
 tp : Tp W q es S'
 new : ∀ b,S' b -> S b ∨ lb < b
 off : Off S w W
/-- Where the blocks lie. -/
structure MulB (w : World) (S Sl Sl2 : Nat -> Prop) (bt bf b7 arr sb lb : Nat) : Prop where
 c0 : w.heap.size <= bt
 c1 : bt < bf
 c2 : bf < b7
 c3 : b7 < arr
 c4 : arr < sb
 c5 : sb < lb
 old : ∀ b,S b -> b < w.heap.size
 lst : ∀ b,Sl b -> b < w.heap.size /\ ¬ S b
 lst2 : ∀ b,Sl2 b -> b < w.heap.size /\ ¬ S b
theorem LsAt.quiet {A B : World} {n : Nat} {v : Value} {xs : List Nat} {Sl T : Nat -> Prop} (h : LsAt A v xs Sl) (hq : Quiet n T A B) (hs : ∀ k,Sl k -> k < n /\ ¬ T k) : LsAt B v xs Sl := by
 obtain ⟨a,cap,hv,h1,h4⟩ := h
 refine ⟨a,cap,hv,h1,fun hp => ?_⟩
 obtain ⟨b,off,ha,hS,hc⟩ := h4 hp
 refine ⟨b,off,ha,hS,fun j x hx => ?_⟩
 obtain ⟨c0,c1,c2,c3⟩ := hc j x hx
 have := hs b hS
 exact ⟨hq.cell c0 this.1 this.2,hq.cell c1 this.1 this.2,hq.cell c2 this.1 this.2,hq.cell c3 this.1 this.2⟩
section
variable {w W W' : World} {id : Int} {p i0 r s bt bf b7 arr sb lb N : Nat} {a : Option Addr} {n cap : Nat} {xs : List Nat} {Sl : Nat -> Prop} {a2 : Option Addr} {m cap2 : Nat} {ys : List Nat} {Sl2 : Nat -> Prop} {q : Option Addr} {es es2 : List Ev} {S S' S2 : Nat -> Prop} {L L2 : List Nat}
theorem MulC.far (h : MulC w W id p i0 r s bt bf b7 arr sb lb N a n cap xs Sl a2 m cap2 ys Sl2 q es S S' L) (hB : MulB w S Sl Sl2 bt bf b7 arr sb lb) {b : Nat} (h1 : w.heap.size <= b) (h2 : b <= lb) : ¬ S' b :=
 fun c => (h.new b c).elim (fun c => by have := hB.old b c; omega) (fun c => by omega)
theorem MulC.keep (h : MulC w W id p i0 r s bt bf b7 arr sb lb N a n cap xs Sl a2 m cap2 ys Sl2 q es S S' L) (ho : Off (fun _ => False) W W') : MulC w W' id p i0 r s bt bf b7 arr sb lb N a n cap xs Sl a2 m cap2 ys Sl2 q es S S' L :=
 ⟨ho.heap h.tb (fun c => c),ho.heap h.fb (fun c => c),ho.heap h.bb (fun c => c),h.ars.off ho (fun c => c),ho.heap h.sx (fun c => c),h.src.off ho (fun c => c) (fun _ _ _ c => c),h.oth.off ho (fun _ _ _ c => c),h.tp.off0 ho,h.new,h.off.trans ho (fun _ _ c => c.elim)⟩
theorem MulC.kept {row : Option Nat} (h : MulC w W id p i0 r s bt bf b7 arr sb lb N a n cap xs Sl a2 m cap2 ys Sl2 q es S S' L) (hg : W.grownBy W' row) (hr : ∀ r,row = some r -> w.heap.size <= r /\ ∃ o : Obj,W.heap[r]? = some o /\ o.isCells = false) : MulC w W' id p i0 r s bt bf b7 arr sb lb N a n cap xs Sl a2 m cap2 ys Sl2 q es S S' L := by
 have hr' : ∀ r,row = some r -> ∃ o : Obj,W.heap[r]? = some o /\ o.isCells = false := fun r e => (hr r e).2
 have k : ∀ {b : Nat} {c : Array Value} {T : TypeId},W.heap[b]? = some (.cells c T (0,0)) -> W'.heap[b]? = some (.cells c T (0,0)) := fun h => (grownBy_keeps_cells hg hr' h rfl).trans h
 exact ⟨k h.tb,k h.fb,k h.bb,k h.ars,k h.sx,h.src.kept hg hr',h.oth.kept hg hr',⟨h.tp.1.kept hg hr',fun b c => Nat.lt_of_lt_of_le (h.tp.2 b c) hg.size⟩,h.new,h.off.later hg (fun r e => (hr r e).1)⟩
theorem MulC.typed (h : MulC w W id p i0 r s bt bf b7 arr sb lb N a n cap xs Sl a2 m cap2 ys Sl2 q es S S' L) : MulC w W id p i0 r s bt bf b7 arr sb lb N a n cap xs Sl a2 m cap2 ys Sl2 q es S (fun k => S' k /\ Typed W k) L :=
 ⟨h.tb,h.fb,h.bb,h.ars,h.sx,h.src,h.oth,h.tp.typed,fun b c => h.new b c.1,h.off⟩
/-- A round of the outer loop: the product and the tape have turned. -/
theorem MulC.round (h : MulC w W id p i0 r s bt bf b7 arr sb lb N a n cap xs Sl a2 m cap2 ys Sl2 q es S S' L) (hB : MulB w S Sl Sl2 bt bf b7 arr sb lb) (hq : Quiet W.heap.size (fun k => S' k ∨ k = arr) W W') (ha : NumsAt W' arr 29 L2) (ht : Tp W' q es2 S2) (hn : ∀ k,S2 k -> S' k ∨ W.heap.size <= k) :
  MulC w W' id p i0 r s bt bf b7 arr sb lb N a n cap xs Sl a2 m cap2 ys Sl2 q es2 S S2 L2 := by
 have c0 := hB.c0; have c1 := hB.c1; have c2 := hB.c2; have c3 := hB.c3; have c4 := hB.c4; have c5 := hB.c5
 have hl := h.src.1.lt
 have hw := h.off.size
 have x : ∀ {b},w.heap.size <= b -> b <= lb -> b ≠ arr -> ¬ (S' b ∨ b = arr) := fun h1 h2 h3 c => c.elim (h.far hB h1 h2) h3
 have y : ∀ {k},k < w.heap.size -> ¬ S k -> k < W.heap.size /\ ¬ (S' k ∨ k = arr) := fun h1 h2 => ⟨by omega,fun c => c.elim (fun c => (h.new _ c).elim h2 (fun c => by omega)) (fun c => by omega)⟩
 exact ⟨hq.block _ _ (by omega) (x (by omega) (by omega) (by omega)) h.tb,hq.block _ _ (by omega) (x (by omega) (by omega) (by omega)) h.fb,hq.block _ _ (by omega) (x (by omega) (by omega) (by omega)) h.bb,ha,hq.block _ _ (by omega) (x (by omega) (by omega) (by omega)) h.sx,
  h.src.quiet hq ⟨hl,x (by omega) (by omega) (by omega)⟩ (fun k c => y (hB.lst k c).1 (hB.lst k c).2),h.oth.quiet hq (fun k c => y (hB.lst2 k c).1 (hB.lst2 k c).2),ht,fun b c => (hn b c).elim (h.new b) (fun c => .inr (by omega)),
  h.off.later' hq hw (fun k hk c => c.elim (fun c => (h.new k c).elim (fun c => c) (fun c => by omega)) (fun c => by omega))⟩
end
set_option maxRecDepth 100000 in
set_option maxHeartbeats 4000000 in
theorem mul_some {id : Int} {p i0 r s : Nat} (hF : Fld id p i0 r s) (vs us : List Nat) (n cap m cap2 : Nat) (a a2 : Option Addr) (hn : n = vs.length) (hm : m = us.length) (h0 : 0 < n) (h02 : 0 < m) (hnm : n * m <= 20000) (hn2 : n + m <= 10000) (q : Option Addr) (es : List Ev) (S Sl Sl2 : Nat -> Prop) (w : World)
  (hL : LsAt w (.slice a n cap) (vs.map (fm p)) Sl) (hSl : ∀ b,Sl b -> b < w.heap.size /\ ¬ S b) (hL2 : LsAt w (.slice a2 m cap2) (us.map (fm p)) Sl2) (hSl2 : ∀ b,Sl2 b -> b < w.heap.size /\ ¬ S b) (hS : Tp w q es S) (hl : es.length <= 70000) :
  Calls Tryd.prog 71 #[.pointer q,FV id p i0 r s,.slice a n cap,.slice a2 m cap2] w fun e w' => ∃ b,e = .returned (.slice (some ⟨b,0,none⟩) (n + m - 1) (n + m - 1)) /\ w.heap.size <= b /\ NumsAt w' b 29 ((mulL p vs us).map (fm p)) /\ Noted w.heap.size q es (pairE n m (List.range n)) S w' /\ Off S w w' := by
 refine (callsIn_wide (n := 9)).1 ?_
 refine callsIn_of_wp_marks Tryd.func71 rfl trivial ?_ rfl
 simp only [Tryd.ntmps71,List.size_toArray,List.length_cons,List.length_nil,Nat.reduceAdd,Nat.reduceSub,Array.replicate_succ,Array.replicate_zero,List.push_toArray,List.append_toArray,List.nil_append,List.cons_append]
 have hmx : Tryd.prog.follows .mixedOrders = true := by kernel_rfl
 have HM := Lib.hid (fun x y W => by have h := mmul_any hF (fm p x) (fm p y) (Nat.lt_trans (fm_lt hF.mp.pos _) hF.mp.lt) (fm_lt hF.mp.pos _) W; rw [mm_fm hF.mp] at h; exact h : ∀ x y W,Calls Tryd.prog 54 #[FV id p i0 r s,V (fm p x),V (fm p y)] W fun x' w' => x' = .returned (V (fm p (x * y % p))) /\ Off (fun _ => False) W w')
 have HA := Lib.hid (fun x y W => by have h := madd_any hF (fm p x) (fm p y) (fm_lt hF.mp.pos _) (fm_lt hF.mp.pos _) W; rw [fm_add] at h; exact h : ∀ x y W,Calls Tryd.prog 53 #[FV id p i0 r s,V (fm p x),V (fm p y)] W fun x' w' => x' = .returned (V (fm p ((x + y) % p))) /\ Off (fun _ => False) W w')
 obtain ⟨N,hN⟩ : ∃ N,N = n + m - 1 := ⟨_,rfl⟩
 obtain ⟨n1,hn1⟩ : ∃ n1,n1 = n + m := ⟨_,rfl⟩
 rw [<- hN]
 have hw1 : IntKind.i64.wrap ((n : Int) + (m : Int)) = (n1 : Int) := by rw [IntKind.wrap_i64]; omega
 have hw2 : IntKind.i64.wrap ((n1 : Int) - 1) = (N : Int) := by rw [IntKind.wrap_i64]; omega
 have hne1 : ((n : Int) == 0) = false := by simp; omega
 have hne2 : ((m : Int) == 0) = false := by simp; omega
 have hmk := run_make_el N (by omega)
 have hOr := fun w => eall_in (9 - 1) a n cap w
 have hNm := Lib.hid hN
 have HF := Lib.hid hF
 have HN := Lib.hid hn
 have HN2 := Lib.hid hm
 have HL := Lib.hid hL
 have HL2 := Lib.hid hL2
 have HSl := Lib.hid hSl
 have HSl2 := Lib.hid hSl2
 have HS := Lib.hid hS
 clear hF hn hm hL hL2 hSl hSl2 hS hN hn1
 gi_wp2_with (gi_at_call 86; refine (hOr _).mono ?_; rintro e w' ⟨rfl,rfl⟩)
 clear hOr hmk hw1 hw2 hne1 hne2
 obtain ⟨W6,hW6⟩ : ∃ W6,W6 = (((((w.alloc (.cells #[.pointer q] 46)).alloc (.cells #[.int .i64 id,.int .u64 (wd p 0 : Int),.int .u64 (wd p 1 : Int),.int .u64 (wd p 2 : Int),.int .u64 (wd p 3 : Int),.int .u64 (i0 : Int),.int .u64 (wd r 0 : Int),.int .u64 (wd r 1 : Int),.int .u64 (wd r 2 : Int),.int .u64 (wd r 3 : Int),.int .u64 (wd s 0 : Int),.int .u64 (wd s 1 : Int),.int .u64 (wd s 2 : Int),.int .u64 (wd s 3 : Int)] 31)).alloc (.cells #[.slice a2 m cap2] 34)).alloc (.cells (flat4 (List.replicate N 0)).toArray 29)).alloc (.cells #[.slice (some ⟨w.heap.size + 1 + 1 + 1,0,none⟩) N N] 34)).alloc (.cells #[.slice a n cap] 34) := ⟨_,rfl⟩
 have hOW6 : Off (fun _ => False) w W6 := by rw [hW6]; exact ((((((Off.refl _ w).alloc _).alloc _).alloc _).alloc _).alloc _).alloc _
 have g_bt : W6.heap[w.heap.size]? = some (.cells #[.pointer q] 46 (0,0)) := by rw [hW6]; exact heap_old' (heap_old' (heap_old' (heap_old' (heap_old' (heap_new' rfl _) _) _) _) _) _
 have g_bf : W6.heap[w.heap.size + 1]? = some (.cells #[.int .i64 id,.int .u64 (wd p 0 : Int),.int .u64 (wd p 1 : Int),.int .u64 (wd p 2 : Int),.int .u64 (wd p 3 : Int),.int .u64 (i0 : Int),.int .u64 (wd r 0 : Int),.int .u64 (wd r 1 : Int),.int .u64 (wd r 2 : Int),.int .u64 (wd r 3 : Int),.int .u64 (wd s 0 : Int),.int .u64 (wd s 1 : Int),.int .u64 (wd s 2 : Int),.int .u64 (wd s 3 : Int)] 31 (0,0)) := by rw [hW6]; exact heap_old' (heap_old' (heap_old' (heap_old' (heap_new' (by simp) _) _) _) _) _
 have g_b7 : W6.heap[w.heap.size + 1 + 1]? = some (.cells #[.slice a2 m cap2] 34 (0,0)) := by rw [hW6]; exact heap_old' (heap_old' (heap_old' (heap_new' (by simp) _) _) _) _
 have g_arr : W6.heap[w.heap.size + 1 + 1 + 1]? = some (.cells (flat4 (List.replicate N 0)).toArray 29 (0,0)) := by rw [hW6]; exact heap_old' (heap_old' (heap_new' (by simp) _) _) _
 have g_sb : W6.heap[w.heap.size + 1 + 1 + 1 + 1]? = some (.cells #[.slice (some ⟨w.heap.size + 1 + 1 + 1,0,none⟩) N N] 34 (0,0)) := by rw [hW6]; exact heap_old' (heap_new' (by simp) _) _
 have g_lb : W6.heap[w.heap.size + 1 + 1 + 1 + 1 + 1]? = some (.cells #[.slice a n cap] 34 (0,0)) := by rw [hW6]; exact heap_new' (by simp) _
 have hsW6 : W6.heap.size = w.heap.size + 1 + 1 + 1 + 1 + 1 + 1 := by rw [hW6]; simp
 rw [<- hW6]
 obtain ⟨lb,e_lb⟩ : ∃ lb,lb = w.heap.size + 1 + 1 + 1 + 1 + 1 := ⟨_,rfl⟩
 rw [<- e_lb] at g_lb ⊢
 obtain ⟨sb,e_sb⟩ : ∃ sb,sb = w.heap.size + 1 + 1 + 1 + 1 := ⟨_,rfl⟩
 rw [<- e_sb] at g_sb ⊢
 obtain ⟨arr,e_arr⟩ : ∃ arr,arr = w.heap.size + 1 + 1 + 1 := ⟨_,rfl⟩
 rw [<- e_arr] at g_arr g_sb ⊢
 obtain ⟨b7,e_b7⟩ : ∃ b7,b7 = w.heap.size + 1 + 1 := ⟨_,rfl⟩
 rw [<- e_b7] at g_b7 ⊢
 obtain ⟨bf,e_bf⟩ : ∃ bf,bf = w.heap.size + 1 := ⟨_,rfl⟩
 rw [<- e_bf] at g_bf ⊢
 obtain ⟨bt,e_bt⟩ : ∃ bt,bt = w.heap.size := ⟨_,rfl⟩
 rw [<- e_bt] at g_bt ⊢
 have HBk := Lib.hid (show bt = w.heap.size /\ bf = w.heap.size + 1 /\ b7 = w.heap.size + 1 + 1 /\ arr = w.heap.size + 1 + 1 + 1 /\ sb = w.heap.size + 1 + 1 + 1 + 1 /\ lb = w.heap.size + 1 + 1 + 1 + 1 + 1 /\ W6.heap.size = w.heap.size + 1 + 1 + 1 + 1 + 1 + 1 from ⟨e_bt,e_bf,e_b7,e_arr,e_sb,e_lb,hsW6⟩)
 clear hW6 hsW6 e_bt e_bf e_b7 e_arr e_sb e_lb
 have hB : MulB w S Sl Sl2 bt bf b7 arr sb lb := by
  have hb := HBk.out
  exact ⟨by omega,by omega,by omega,by omega,by omega,by omega,HS.out.2,HSl.out,HSl2.out⟩
 have hC0 : MulC w W6 id p i0 r s bt bf b7 arr sb lb N a n cap (vs.map (fm p)) Sl a2 m cap2 (us.map (fm p)) Sl2 q (ext q es (pairE n m [])) S S ((mulAll p vs us []).map (fm p)) := by
  refine ⟨g_bt,g_bf,g_b7,?_,g_sb,⟨g_lb,HL.out.off hOW6 (fun _ _ _ c => c)⟩,HL2.out.off hOW6 (fun _ _ _ c => c),?_,fun _ c => .inl c,hOW6.mono (fun _ _ c => c.elim)⟩
  ·rw [show mulAll p vs us [] = List.replicate (vs.length + us.length - 1) 0 from rfl,<- HN.out,<- HN2.out,<- hNm.out,List.map_replicate,fm_zero]; exact g_arr
  ·rw [show pairE n m [] = [] from rfl,ext_nil]; exact HS.out.off0 hOW6
 have hbs : lb < W6.heap.size := by have hb := HBk.out; omega
 have HC0 := Lib.hid hC0
 have HB := Lib.hid hB
 have hst := eall_stops (9 - 1) (by omega) lb a n cap (vs.map (fm p)) Sl W6 hC0.src
 simp only [List.length_map,getD_fm,<- HN.out] at hst
 clear hC0 g_bt g_bf g_b7 g_arr g_sb g_lb hOW6 hB
 refine wpIn_rangeFunc_ownH (F := Fence.wide) (n := 9) rfl (by omega) (gf := 103) (lb := #[.pointer (some ⟨lb,0,none⟩)]) rfl trivial (enters_of Tryd.func103 (by kernel_rfl) rfl)
  hst (fun h k x => k (h x)) (fun W l o o' hl h hc hw => rlK_b W l o o' hl h hc hw) (Below.refl _ _) (fun _ => by rfl)
  (fun pre W => ∃ S',MulC w W id p i0 r s bt bf b7 arr sb lb N a n cap (vs.map (fm p)) Sl a2 m cap2 (us.map (fm p)) Sl2 q (ext q es (pairE n m pre)) S S' ((mulAll p vs us pre).map (fm p)) /\ pre.length <= n)
  (fun _ _ _ => False)
  (fun pre A B row hs hg hr => by
   obtain ⟨S',h1,h2⟩ := hs
   exact ⟨S',h1.kept hg (fun r e => ⟨by have := (hr r e).1; have hb := HBk.out; omega,(hr r e).2⟩),h2⟩)
  (fun _ _ _ _ _ hs _ _ => hs)
  ⟨S,HC0.out,Nat.zero_le _⟩
  (fun x a' W => ∃ B1 B2,W.heap[B1]? = some (.cells #[.int .i64 ((x % n : Nat) : Int)] 3 (0,0)) /\ W.heap[B2]? = some (.cells #[.int .u64 (wd (fm p (vs.getD (x % n) 0)) 0 : Int),.int .u64 (wd (fm p (vs.getD (x % n) 0)) 1 : Int),.int .u64 (wd (fm p (vs.getD (x % n) 0)) 2 : Int),.int .u64 (wd (fm p (vs.getD (x % n) 0)) 3 : Int)] 29 (0,0)) /\ lb < B1 /\ lb < B2 /\ a' = { tmps := #[.pointer q,FV id p i0 r s,.slice a n cap,.slice a2 m cap2,.pointer (some ⟨bt,0,none⟩),.pointer (some ⟨bf,0,none⟩),undef,.pointer (some ⟨b7,0,none⟩),.slice none 0 0,.pointer (some ⟨sb,0,none⟩),.pointer (some ⟨B1,0,none⟩),.pointer (some ⟨B2,0,none⟩),undef,undef,.slice a n cap,.int .i64 (n : Int),.bool false,.bool false,.slice a2 m cap2,.int .i64 (m : Int),.bool false,.bool false,.slice a n cap,.int .i64 (n : Int),.slice a2 m cap2,.int .i64 (m : Int),.int .i64 (n1 : Int),.int .i64 (N : Int),.slice (some ⟨arr,0,none⟩) N N,.slice a n cap,.func (.func 103) #[] #[.pointer (some ⟨lb,0,none⟩)],.int .i64 ((x % n : Nat) : Int),V (fm p (vs.getD (x % n) 0)),undef,undef,undef,undef,undef,undef,undef,undef,undef,undef,undef,undef,undef,undef,undef,undef,undef,undef,undef,undef,undef,undef,undef,undef],defers := [] })
  (fun x a' _ A C row hs hg hr => by
   obtain ⟨B1,B2,h1,h2,h3⟩ := hs
   exact ⟨B1,B2,(grownBy_keeps_cells hg (fun r e => (hr r e).2) h1 rfl).trans h1,(grownBy_keeps_cells hg (fun r e => (hr r e).2) h2 rfl).trans h2,h3⟩)
  ?assign ?body ?done ?stop
 case assign =>
  rintro l pre x W K ⟨S',hC,hlen⟩ hK
  obtain ⟨j,hj⟩ : ∃ j,j = x % n := ⟨_,rfl⟩
  obtain ⟨y,hy⟩ : ∃ y,y = fm p (vs.getD (x % n) 0) := ⟨_,rfl⟩
  rw [<- hy,<- hj] at hK
  rw [<- hy,<- hj]
  clear hy hj hst
  have hlt := hC.src.1.lt
  gi_wp2
  have ho := ((Off.refl (fun _ => False) W).alloc (.cells #[.int .i64 (j : Int)] 3)).alloc (.cells #[.int .u64 (wd y 0 : Int),.int .u64 (wd y 1 : Int),.int .u64 (wd y 2 : Int),.int .u64 (wd y 3 : Int)] 29)
  exact hK _ _ (ho.keeps.from _) (fun h => h.off ho (fun c => c) (fun _ _ _ c => c)) ⟨S',hC.keep ho,hlen⟩ ⟨W.heap.size,W.heap.size + 1,heap_old' (World.alloc_heap_new W _) _,heap_new' (by simp) _,hlt,by omega,rfl⟩
 case body =>
  rintro l pre x a' W hl0 ⟨r₀,hr₀⟩ ⟨S0,hC,hlen2⟩ ⟨ib,xb,hcI,hcX,hIt,hXt,rfl⟩ hlen
  obtain ⟨i,hi⟩ : ∃ i,i = x % n := ⟨_,rfl⟩
  have hin : i < n := by rw [hi]; exact Nat.mod_lt _ h0
  obtain ⟨v,hv⟩ : ∃ v,v = vs.getD (x % n) 0 := ⟨_,rfl⟩
  obtain ⟨L,hL⟩ : ∃ L,L = mulAll p vs us pre := ⟨_,rfl⟩
  have hLn : L.length = N := by rw [hL,mulAll_length,<- HN.out,<- HN2.out,hNm.out]
  have hsn : mulAll p vs us (pre ++ [x]) = mulRow p v us i L (List.range m) := by rw [mulAll_snoc,<- HN.out,<- HN2.out,<- hL,<- hi,hv,hi]
  have hse : pairE n m (pre ++ [x]) = pairE n m pre ++ (List.range m).map (fun y => ((3 : Int),(i : Int),((y % m : Nat) : Int))) := by rw [pairE_snoc,<- hi]
  obtain ⟨x1,hx1⟩ : ∃ x1,x1 = fm p v := ⟨_,rfl⟩
  rw [<- hv,<- hi,<- hx1]
  rw [<- hi] at hcI
  rw [<- hv,<- hx1] at hcX
  rw [<- hL] at hC
  have hC := hC.typed
  obtain ⟨S',hS'⟩ : ∃ S' : Nat -> Prop,S' = fun k => S0 k /\ Typed W k := ⟨_,rfl⟩
  have hIS : ¬ S' ib := by rw [hS']; exact fun c => not_typed' hcI (by decide) (by decide) (by decide) c.2
  have hXS : ¬ S' xb := by rw [hS']; exact fun c => not_typed hcX c.2
  rw [<- hS'] at hC
  clear hS'
  have HSn := Lib.hid hsn
  have HSe := Lib.hid hse
  have HX1 := Lib.hid hx1
  have HC := Lib.hid hC
  have HcI := Lib.hid hcI
  have HcX := Lib.hid hcX
  have HR := Lib.hid hr₀
  have k0 : W.cell? ⟨b7,0,none⟩ = some (.slice a2 m cap2) := cell_of_heap hC.bb 0
  have hmf : ∀ (fn : Fn) (first cap : Array Value) (W : World),(Instr.makeFunc fn first cap).run Tryd.prog W = .ok (.func fn first cap) W := fun _ _ _ _ => rfl
  have hOr := fun w => CallsIn.inRound l (eall_in (9 - 1 - 1 - 1) a2 m cap2 w)
  have hNo := fun lb w => CallsIn.inRound l (callsIn_wide (n := 9 - 1 - 1 - 1).2 (noted_any (.func (.func 103) #[] #[.pointer (some ⟨lb,0,none⟩)]) (.func (.func 87) #[] #[.pointer (some ⟨bt,0,none⟩),.pointer (some ⟨ib,0,none⟩)]) w ⟨_,_,rfl⟩ ⟨_,_,rfl⟩))
  clear hC hcI hcX hr₀ hi hv hL hsn hse hx1 hst
  gi_wp2_with (first | (gi_at_call 86; refine (hOr _).mono ?_; rintro e w' ⟨rfl,rfl⟩) | (gi_at_call 73; refine (hNo _ _).mono ?_; rintro e w' ⟨rfl,rfl⟩))
  clear hOr hNo hmf k0
  obtain ⟨W3,hW3⟩ : ∃ W3,W3 = ((W.alloc (.cells #[.slice a2 m cap2] 34)).alloc (.cells #[.func (.func 103) #[] #[.pointer (some ⟨W.heap.size,0,none⟩)]] 121)).alloc (.cells #[.func (.func 87) #[] #[.pointer (some ⟨bt,0,none⟩),.pointer (some ⟨ib,0,none⟩)]] 72) := ⟨_,rfl⟩
  have hOW3 : Off (fun _ => False) W W3 := by rw [hW3]; exact (((Off.refl _ W).alloc _).alloc _).alloc _
  have g_lb2 : W3.heap[W.heap.size]? = some (.cells #[.slice a2 m cap2] 34 (0,0)) := by rw [hW3]; exact heap_old' (heap_old' (heap_new' rfl _) _) _
  have g_ob : W3.heap[W.heap.size + 1]? = some (.cells #[.func (.func 103) #[] #[.pointer (some ⟨W.heap.size,0,none⟩)]] 121 (0,0)) := by rw [hW3]; exact heap_old' (heap_new' (by simp) _) _
  have g_nb : W3.heap[W.heap.size + 1 + 1]? = some (.cells #[.func (.func 87) #[] #[.pointer (some ⟨bt,0,none⟩),.pointer (some ⟨ib,0,none⟩)]] 72 (0,0)) := by rw [hW3]; exact heap_new' (by simp) _
  have hsW3 : W3.heap.size = W.heap.size + 1 + 1 + 1 := by rw [hW3]; simp
  rw [<- hW3]
  obtain ⟨nb,e_nb⟩ : ∃ nb,nb = W.heap.size + 1 + 1 := ⟨_,rfl⟩
  rw [<- e_nb] at g_nb ⊢
  obtain ⟨ob,e_ob⟩ : ∃ ob,ob = W.heap.size + 1 := ⟨_,rfl⟩
  rw [<- e_ob] at g_ob ⊢
  obtain ⟨lb2,e_lb2⟩ : ∃ lb2,lb2 = W.heap.size := ⟨_,rfl⟩
  rw [<- e_lb2] at g_lb2 g_ob ⊢
  have HBk3 := Lib.hid (show lb2 = W.heap.size /\ ob = W.heap.size + 1 /\ nb = W.heap.size + 1 + 1 /\ W3.heap.size = W.heap.size + 1 + 1 + 1 from ⟨e_lb2,e_ob,e_nb,hsW3⟩)
  clear hW3 hsW3 e_lb2 e_ob e_nb
  have hw6 : W6.heap.size <= W.heap.size := by have := HC.out.off.size; have hb := HBk.out; have := heap_lt HR.out; omega
  have hlbW := HC.out.src.1.lt
  have hnS : ∀ k,W.heap.size <= k -> ¬ S' k := fun k hk c => by have := HC.out.tp.2 k c; omega
  have hbt : ¬ S' bt := HC.out.far HB.out HB.out.c0 (by have hb := HBk.out; omega)
  have harr : ¬ S' arr := HC.out.far HB.out (by have hb := HBk.out; omega) (by have hb := HBk.out; omega)
  have hilt := heap_lt HcI.out
  have hseq := mul_told (n := 9 - 1 - 1 - 1) (by omega) ob nb bt ib i 103 #[.pointer (some ⟨lb2,0,none⟩)] (enters_of Tryd.func103 (by kernel_rfl) rfl) (fun x => x % m) (fun x => fm p (us.getD (x % m) 0)) (fun W => Rl lb2 (.slice a2 m cap2) (us.map (fm p)) Sl2 W) (fun ys => ys = List.range m) (fun pre => ∃ k,k <= m /\ pre = List.range k) m
   (fun W hW => by have h := eall_stops (9 - 1 - 1 - 1 - 1) (by omega) lb2 a2 m cap2 (us.map (fm p)) Sl2 W hW; simp only [List.length_map,getD_fm,<- HN2.out] at h; exact h)
   [(ob,Obj.cells #[.func (.func 103) #[] #[.pointer (some ⟨lb2,0,none⟩)]] 121 (0,0)),(nb,Obj.cells #[.func (.func 87) #[] #[.pointer (some ⟨bt,0,none⟩),.pointer (some ⟨ib,0,none⟩)]] 72 (0,0)),(bt,Obj.cells #[.pointer q] 46 (0,0)),(ib,Obj.cells #[.int .i64 (i : Int)] 3 (0,0))] q (ext q es (pairE n m pre)) S' (fun k => k = arr) W3
   (by simp) (by simp) (by simp) (by simp)
   (by
    have hb := HBk.out
    have hb3 := HBk3.out
    simp only [List.mem_cons,List.not_mem_nil,or_false,forall_eq_or_imp,forall_eq]
    exact ⟨⟨g_ob,hnS _ (by omega),by omega⟩,⟨g_nb,hnS _ (by omega),by omega⟩,⟨hOW3.heap HC.out.tb (fun c => c),hbt,by omega⟩,⟨hOW3.heap HcI.out (fun c => c),hIS,by omega⟩⟩)
   (fun k c => by have c : k = arr := c; subst c; have hb := HBk.out; have hb3 := HBk3.out; exact ⟨by omega,harr⟩) ⟨g_lb2,HC.out.oth.off hOW3 (fun _ _ _ c => c)⟩
   (fun A B h hq => by
    have hb := HBk.out
    have hb3 := HBk3.out
    exact h.quiet hq ⟨by omega,fun c => c.elim (hnS _ (by omega)) (by omega)⟩ (fun k c => ⟨by have := (HSl2.out k c).1; omega,fun d => d.elim (fun d => (HC.out.new k d).elim (HSl2.out k c).2 (fun d => by have := (HSl2.out k c).1; omega)) (fun e => by have := (HSl2.out k c).1; omega)⟩))
   (HC.out.tp.off0 hOW3) (by
    have h1 := ext_le q es (pairE n m pre)
    rw [pairE_length] at h1
    have h2 : pre.length * m + m <= n * m := by
     have h3 : (pre.length + 1) * m <= n * m := Nat.mul_le_mul_right m (by omega)
     rw [Nat.add_mul,Nat.one_mul] at h3; exact h3
    omega)
  have HnS := Lib.hid hnS
  have HArr := Lib.hid harr
  have HIS := Lib.hid hIS
  have HXS := Lib.hid hXS
  have HO3 := Lib.hid hOW3
  have hr3 := hOW3.others _ _ HR.out rfl
  have h30 : Quiet W.heap.size (fun k => S' k ∨ k = arr) W W3 /\ NumsAt W3 arr 29 ((mulRow p v us i L []).map (fm p)) := ⟨hOW3.quiet (fun _ _ c => c.elim),HC.out.ars.off hOW3 (fun c => c)⟩
  have H30 := Lib.hid h30
  clear h30 g_lb2 g_ob g_nb hOW3 hnS hbt harr hIS hXS
  refine rangeFunc_toldN (n := 9 - 1 - 1) (l₀ := l) hr3 (by omega) (gf := 88) (lb := #[.pointer (some ⟨ob,0,none⟩),.pointer (some ⟨nb,0,none⟩)]) rfl (enters_of Tryd.func88 (by kernel_rfl) rfl) hseq
   (fun xs A B h hq hc => noted_cells h hq hc) (fun _ => by rfl)
   (fun pre2 A => Quiet W.heap.size (fun k => S' k ∨ k = arr) W A /\ NumsAt A arr 29 ((mulRow p v us i L pre2).map (fm p))) ?hI ?h0
   (fun x a' A => ∃ B,A.heap[B]? = some (.cells #[.int .u64 (wd (fm p (us.getD (x % m) 0)) 0 : Int),.int .u64 (wd (fm p (us.getD (x % m) 0)) 1 : Int),.int .u64 (wd (fm p (us.getD (x % m) 0)) 2 : Int),.int .u64 (wd (fm p (us.getD (x % m) 0)) 3 : Int)] 29 (0,0)) /\ nb < B /\ a' = { tmps := #[.pointer q,FV id p i0 r s,.slice a n cap,.slice a2 m cap2,.pointer (some ⟨bt,0,none⟩),.pointer (some ⟨bf,0,none⟩),undef,.pointer (some ⟨b7,0,none⟩),.slice none 0 0,.pointer (some ⟨sb,0,none⟩),.pointer (some ⟨ib,0,none⟩),.pointer (some ⟨xb,0,none⟩),.int .i64 ((x % m : Nat) : Int),.pointer (some ⟨B,0,none⟩),.slice a n cap,.int .i64 (n : Int),.bool false,.bool false,.slice a2 m cap2,.int .i64 (m : Int),.bool false,.bool false,.slice a n cap,.int .i64 (n : Int),.slice a2 m cap2,.int .i64 (m : Int),.int .i64 (n1 : Int),.int .i64 (N : Int),.slice (some ⟨arr,0,none⟩) N N,.slice a n cap,.func (.func 103) #[] #[.pointer (some ⟨lb,0,none⟩)],.int .i64 (i : Int),V x1,.slice a2 m cap2,.func (.func 103) #[] #[.pointer (some ⟨lb2,0,none⟩)],.func (.func 87) #[] #[.pointer (some ⟨bt,0,none⟩),.pointer (some ⟨ib,0,none⟩)],.func (.func 88) #[] #[.pointer (some ⟨ob,0,none⟩),.pointer (some ⟨nb,0,none⟩)],.int .i64 ((x % m : Nat) : Int),V (fm p (us.getD (x % m) 0)),undef,undef,undef,undef,undef,undef,undef,undef,undef,undef,undef,undef,undef,undef,undef,undef,undef,undef],defers := [] })
   (fun x a' A l o' h hc => by obtain ⟨B,h1,h2,h3⟩ := h; exact ⟨B,hc _ _ _ _ h1,h2,h3⟩)
   ?assign2 ?body2 ?done2
  case hI =>
   rintro pre2 A B ⟨h1,h2⟩ hq
   have hb := HBk.out
   have hb3 := HBk3.out
   exact ⟨h1.trans (hq.mono (by omega) (fun _ _ c => .inl c)),hq.block _ _ (by omega) HArr.out h2⟩
  case h0 => exact H30.out
  case assign2 =>
   rintro l2 pre2 k A K hsz _ hK
   obtain ⟨j,hj⟩ : ∃ j,j = k % m := ⟨_,rfl⟩
   obtain ⟨y,hy⟩ : ∃ y,y = fm p (us.getD (k % m) 0) := ⟨_,rfl⟩
   rw [<- hy,<- hj] at hK
   rw [<- hy,<- hj]
   have hlt : nb < A.heap.size := by have hb := HBk3.out; omega
   clear hy hj hseq
   gi_wp2
   exact hK _ _ ((Off.refl _ A).alloc _) ⟨A.heap.size,World.alloc_heap_new A _,hlt,rfl⟩
  case body2 =>
   rintro l2 pre2 k a' A _ _ ⟨h1,h2⟩ ⟨B,hcB,hBt,rfl⟩ hlen3
   obtain ⟨j,hj⟩ : ∃ j,j = k % m := ⟨_,rfl⟩
   obtain ⟨u,hu⟩ : ∃ u,u = us.getD (k % m) 0 := ⟨_,rfl⟩
   have hjm : j < m := by rw [hj]; exact Nat.mod_lt _ h02
   rw [<- hu,<- hj]
   rw [<- hu] at hcB
   obtain ⟨y,hy⟩ : ∃ y,y = fm p u := ⟨_,rfl⟩
   rw [<- hy]
   rw [<- hy] at hcB
   obtain ⟨L2,hL2⟩ : ∃ L2,L2 = mulRow p v us i L pre2 := ⟨_,rfl⟩
   have hL2n : L2.length = N := by rw [hL2,mulRow_length,hLn]
   obtain ⟨g,hg⟩ : ∃ g,g = i + j := ⟨_,rfl⟩
   have hgN : g < N := by have := hNm.out; omega
   obtain ⟨t0,ht0⟩ : ∃ t0,t0 = L2.getD g 0 := ⟨_,rfl⟩
   have hsn2 : mulRow p v us i L (pre2 ++ [k]) = L2.set g ((t0 + v * u % p) % p) := by rw [mulRow_snoc,<- HN2.out,<- hL2,<- hj,<- hg,<- ht0,hu,hj]
   rw [<- hL2] at h2
   obtain ⟨t,ht⟩ : ∃ t,t = fm p (v * u % p) := ⟨_,rfl⟩
   obtain ⟨o,ho⟩ : ∃ o,o = fm p t0 := ⟨_,rfl⟩
   obtain ⟨z,hz⟩ : ∃ z,z = fm p ((t0 + v * u % p) % p) := ⟨_,rfl⟩
   have HMu := Lib.hid (show ∀ W,Calls Tryd.prog 54 #[FV id p i0 r s,V x1,V y] W fun x' w' => x' = .returned (V t) /\ Off (fun _ => False) W w' from fun W => by rw [HX1.out,hy,ht]; exact HM.out _ _ W)
   have HAd := Lib.hid (show ∀ W,Calls Tryd.prog 53 #[FV id p i0 r s,V o,V t] W fun x' w' => x' = .returned (V z) /\ Off (fun _ => False) W w' from fun W => by rw [ho,ht,hz]; exact HA.out _ _ W)
   have HLs := Lib.hid (show (L2.set g ((t0 + v * u % p) % p)).map (fm p) = (L2.map (fm p)).set g z by rw [List.map_set,hz])
   obtain ⟨L1,hL1⟩ : ∃ L1,L1 = L2.map (fm p) := ⟨_,rfl⟩
   have hL1n : L1.length = N := by rw [hL1,List.length_map,hL2n]
   have hoj : L1[g]? = some o := by
    rw [ho,ht0,<- getD_fm,<- hL1,List.getD_eq_getElem?_getD,List.getElem?_eq_getElem (by omega)]; rfl
   rw [<- hL1] at h2 HLs
   have hgI : (g : Int) < (N : Int) := by omega
   have hwg : IntKind.i64.wrap ((i : Int) + (j : Int)) = (g : Int) := by rw [IntKind.wrap_i64]; omega
   have HOj := Lib.hid hoj
   have HPt := Lib.hid (show ∀ W : World,W.heap[arr]? = some (.cells (flat4 L1).toArray 29 (0,0)) -> (W.setCells arr (g * 4) (words4 z)).heap[arr]? = some (.cells (flat4 (L1.set g z)).toArray 29 (0,0)) from fun W h => NumsAt.store h (by omega) z)
   have HAr := Lib.hid (show A.heap[arr]? = some (.cells (flat4 L1).toArray 29 (0,0)) from h2)
   have HSn2 := Lib.hid hsn2
   have H1 := Lib.hid h1
   have hxlt := heap_lt HcX.out
   have qb : ∀ {b o},w.heap.size <= b -> b <= lb -> b ≠ arr -> W.heap[b]? = some o -> A.heap[b]? = some o := fun hb1 hb2 hb3 hb4 => h1.block _ _ (heap_lt hb4) (fun c => c.elim (HC.out.far HB.out hb1 hb2) hb3) hb4
   have HK : Hid (∀ W',Off (fun k => k = arr) A W' -> (W'.cell? ⟨sb,0,none⟩ = some (.slice (some ⟨arr,0,none⟩) N N)) /\ (W'.cell? ⟨ib,0,none⟩ = some (.int .i64 (i : Int))) /\ (W'.cell? ⟨bf,0,none⟩ = some (.int .i64 id) /\ W'.cell? ⟨bf,1,none⟩ = some (.int .u64 (wd p 0 : Int)) /\ W'.cell? ⟨bf,2,none⟩ = some (.int .u64 (wd p 1 : Int)) /\ W'.cell? ⟨bf,3,none⟩ = some (.int .u64 (wd p 2 : Int)) /\ W'.cell? ⟨bf,4,none⟩ = some (.int .u64 (wd p 3 : Int)) /\ W'.cell? ⟨bf,5,none⟩ = some (.int .u64 (i0 : Int)) /\ W'.cell? ⟨bf,6,none⟩ = some (.int .u64 (wd r 0 : Int)) /\ W'.cell? ⟨bf,7,none⟩ = some (.int .u64 (wd r 1 : Int)) /\ W'.cell? ⟨bf,8,none⟩ = some (.int .u64 (wd r 2 : Int)) /\ W'.cell? ⟨bf,9,none⟩ = some (.int .u64 (wd r 3 : Int)) /\ W'.cell? ⟨bf,10,none⟩ = some (.int .u64 (wd s 0 : Int)) /\ W'.cell? ⟨bf,11,none⟩ = some (.int .u64 (wd s 1 : Int)) /\ W'.cell? ⟨bf,12,none⟩ = some (.int .u64 (wd s 2 : Int)) /\ W'.cell? ⟨bf,13,none⟩ = some (.int .u64 (wd s 3 : Int))) /\ (W'.cell? ⟨xb,0,none⟩ = some (.int .u64 (wd x1 0 : Int)) /\ W'.cell? ⟨xb,1,none⟩ = some (.int .u64 (wd x1 1 : Int)) /\ W'.cell? ⟨xb,2,none⟩ = some (.int .u64 (wd x1 2 : Int)) /\ W'.cell? ⟨xb,3,none⟩ = some (.int .u64 (wd x1 3 : Int))) /\ (W'.cell? ⟨B,0,none⟩ = some (.int .u64 (wd y 0 : Int)) /\ W'.cell? ⟨B,1,none⟩ = some (.int .u64 (wd y 1 : Int)) /\ W'.cell? ⟨B,2,none⟩ = some (.int .u64 (wd y 2 : Int)) /\ W'.cell? ⟨B,3,none⟩ = some (.int .u64 (wd y 3 : Int))) /\ Off (fun k => k = arr) A W') := Lib.hid (fun W' h => by
    have hb := HBk.out
    have hb3 := HBk3.out
    exact ⟨cell_of_heap (h.heap (qb (by omega) (by omega) (by omega) HC.out.sx) (by omega)) 0,cell_of_heap (h.heap (h1.block _ _ hilt (fun c => c.elim HIS.out (by omega)) HcI.out) (by omega)) 0,fv_cells (h.heap (qb (by omega) (by omega) (by omega) HC.out.fb) (by omega)),cells4 (h.heap (h1.block _ _ hxlt (fun c => c.elim HXS.out (by omega)) HcX.out) (by omega)),cells4 (h.heap hcB (by omega)),h⟩)
   clear h1 h2 qb hcB hz hy hu hj hseq hL2 hL1 hL2n hsn2 ho ht ht0 hoj hg hr3
   gi_wp2
   refine wpIn_region_inv (fun a0 l a' w' => ∃ (u39 : Value) (u40 : Value) (u41 : Value) (u42 : Value) (u43 : Value) (u44 : Value) (u45 : Value) (u46 : Value) (u47 : Value) (u48 : Value) (u49 : Value) (u50 : Value) (u51 : Value) (u52 : Value) (u53 : Value) (u54 : Value) (u55 : Value),a' = (Act.put (Act.put (Act.put (Act.put (Act.put (Act.put (Act.put (Act.put (Act.put (Act.put (Act.put (Act.put (Act.put (Act.put (Act.put (Act.put (Act.put a0 (some 39) u39) (some 40) u40) (some 41) u41) (some 42) u42) (some 43) u43) (some 44) u44) (some 45) u45) (some 46) u46) (some 47) u47) (some 48) u48) (some 49) u49) (some 50) u50) (some 51) u51) (some 52) u52) (some 53) u53) (some 54) u54) (some 55) u55) /\ Slot l 0 u39 (.slice (some ⟨arr,0,none⟩) N N) /\ Slot l 1 u40 (.int .i64 (i : Int)) /\ Slot l 2 u41 (.int .i64 (j : Int)) /\ Slot l 3 u42 (.int .i64 (g : Int)) /\ Slot l 4 u43 (FV id p i0 r s) /\ Slot l 5 u44 (.slice (some ⟨arr,0,none⟩) N N) /\ Slot l 6 u45 (.int .i64 (i : Int)) /\ Slot l 7 u46 (.int .i64 (j : Int)) /\ Slot l 8 u47 (.int .i64 (g : Int)) /\ Slot l 9 u48 (.pointer (some ⟨arr,g * 4,none⟩)) /\ Slot l 10 u49 (V o) /\ Slot l 11 u50 (FV id p i0 r s) /\ Slot l 12 u51 (V x1) /\ Slot l 13 u52 (V y) /\ Slot l 14 u53 (V t) /\ Slot l 15 u54 (V z) /\ Slot l 16 u55 (.pointer (some ⟨arr,g * 4,none⟩)) /\ Old l 17 arr A w' (.cells (flat4 L1).toArray 29) (.cells (flat4 (L1.set g z)).toArray 29) /\ Dep l 10 17 /\ Off (fun k => k = arr) A w') (by kernel_rfl) (by kernel_rfl) (by kernel_rfl) ?_ ⟨?_,?_,?_,?_,?_,?_,?_,?_,?_,?_,?_,?_,?_,?_,?_,?_,?_,?_,trivial⟩ ?_
   ·refine ⟨?z39,?z40,?z41,?z42,?z43,?z44,?z45,?z46,?z47,?z48,?z49,?z50,?z51,?z52,?z53,?z54,?z55,?fr,Slot.start _ _ _,Slot.start _ _ _,Slot.start _ _ _,Slot.start _ _ _,Slot.start _ _ _,Slot.start _ _ _,Slot.start _ _ _,Slot.start _ _ _,Slot.start _ _ _,Slot.start _ _ _,Slot.start _ _ _,Slot.start _ _ _,Slot.start _ _ _,Slot.start _ _ _,Slot.start _ _ _,Slot.start _ _ _,Slot.start _ _ _,Old.start HAr.out _ _,Dep.start _ _,(Off.refl _ A).drew⟩
    case fr => first | (simp only [Act.put,List.setIfInBounds_toArray,List.set_cons_zero,List.set_cons_succ]; rfl) | simp only [Act.put,List.setIfInBounds_toArray,List.set_cons_zero,List.set_cons_succ]
   ·intro l a wr hI hl hd K' hK
    obtain ⟨u39,u40,u41,u42,u43,u44,u45,u46,u47,u48,u49,u50,u51,u52,u53,u54,u55,ha,s0,s1,s2,s3,s4,s5,s6,s7,s8,s9,s10,s11,s12,s13,s14,s15,s16,O0,P10_17,hO⟩ := hI
    simp only [Act.put,List.setIfInBounds_toArray,List.set_cons_zero,List.set_cons_succ] at ha
    subst ha
    have hc := HK.out wr hO
    have p0 := hc.1
    clear hc
    go_simp
    refine hK.out _ _ ⟨_,_,_,_,_,_,_,_,_,_,_,_,_,_,_,_,_,?_,Slot.new _ _ _,s1.keep rfl,s2.keep rfl,s3.keep rfl,s4.keep rfl,s5.keep rfl,s6.keep rfl,s7.keep rfl,s8.keep rfl,s9.keep rfl,s10.keep rfl,s11.keep rfl,s12.keep rfl,s13.keep rfl,s14.keep rfl,s15.keep rfl,s16.keep rfl,O0.keep (Off.refl _ wr) rfl,P10_17.keep rfl,hO⟩
    simp only [Act.put,List.setIfInBounds_toArray,List.set_cons_zero,List.set_cons_succ]
   ·intro l a wr hI hl hd K' hK
    obtain ⟨u39,u40,u41,u42,u43,u44,u45,u46,u47,u48,u49,u50,u51,u52,u53,u54,u55,ha,s0,s1,s2,s3,s4,s5,s6,s7,s8,s9,s10,s11,s12,s13,s14,s15,s16,O0,P10_17,hO⟩ := hI
    simp only [Act.put,List.setIfInBounds_toArray,List.set_cons_zero,List.set_cons_succ] at ha
    subst ha
    have hc := HK.out wr hO
    have p0 := hc.2.1
    clear hc
    go_simp
    refine hK.out _ _ ⟨_,_,_,_,_,_,_,_,_,_,_,_,_,_,_,_,_,?_,s0.keep rfl,Slot.new _ _ _,s2.keep rfl,s3.keep rfl,s4.keep rfl,s5.keep rfl,s6.keep rfl,s7.keep rfl,s8.keep rfl,s9.keep rfl,s10.keep rfl,s11.keep rfl,s12.keep rfl,s13.keep rfl,s14.keep rfl,s15.keep rfl,s16.keep rfl,O0.keep (Off.refl _ wr) rfl,P10_17.keep rfl,hO⟩
    simp only [Act.put,List.setIfInBounds_toArray,List.set_cons_zero,List.set_cons_succ]
   ·intro l a wr hI hl hd K' hK
    obtain ⟨u39,u40,u41,u42,u43,u44,u45,u46,u47,u48,u49,u50,u51,u52,u53,u54,u55,ha,s0,s1,s2,s3,s4,s5,s6,s7,s8,s9,s10,s11,s12,s13,s14,s15,s16,O0,P10_17,hO⟩ := hI
    simp only [Act.put,List.setIfInBounds_toArray,List.set_cons_zero,List.set_cons_succ] at ha
    subst ha
    go_simp
    refine hK.out _ _ ⟨_,_,_,_,_,_,_,_,_,_,_,_,_,_,_,_,_,?_,s0.keep rfl,s1.keep rfl,Slot.new _ _ _,s3.keep rfl,s4.keep rfl,s5.keep rfl,s6.keep rfl,s7.keep rfl,s8.keep rfl,s9.keep rfl,s10.keep rfl,s11.keep rfl,s12.keep rfl,s13.keep rfl,s14.keep rfl,s15.keep rfl,s16.keep rfl,O0.keep (Off.refl _ wr) rfl,P10_17.keep rfl,hO⟩
    simp only [Act.put,List.setIfInBounds_toArray,List.set_cons_zero,List.set_cons_succ]
   ·intro l a wr hI hl hd K' hK
    obtain ⟨u39,u40,u41,u42,u43,u44,u45,u46,u47,u48,u49,u50,u51,u52,u53,u54,u55,ha,s0,s1,s2,s3,s4,s5,s6,s7,s8,s9,s10,s11,s12,s13,s14,s15,s16,O0,P10_17,hO⟩ := hI
    simp only [Act.put,List.setIfInBounds_toArray,List.set_cons_zero,List.set_cons_succ] at ha
    have q1 := s1 (hd 1 (by decide))
    have q2 := s2 (hd 2 (by decide))
    subst ha q1 q2
    go_simp
    refine hK.out _ _ ⟨_,_,_,_,_,_,_,_,_,_,_,_,_,_,_,_,_,?_,s0.keep rfl,s1.keep rfl,s2.keep rfl,Slot.new _ _ _,s4.keep rfl,s5.keep rfl,s6.keep rfl,s7.keep rfl,s8.keep rfl,s9.keep rfl,s10.keep rfl,s11.keep rfl,s12.keep rfl,s13.keep rfl,s14.keep rfl,s15.keep rfl,s16.keep rfl,O0.keep (Off.refl _ wr) rfl,P10_17.keep rfl,hO⟩
    simp only [Act.put,List.setIfInBounds_toArray,List.set_cons_zero,List.set_cons_succ]
   ·intro l a wr hI hl hd K' hK
    obtain ⟨u39,u40,u41,u42,u43,u44,u45,u46,u47,u48,u49,u50,u51,u52,u53,u54,u55,ha,s0,s1,s2,s3,s4,s5,s6,s7,s8,s9,s10,s11,s12,s13,s14,s15,s16,O0,P10_17,hO⟩ := hI
    simp only [Act.put,List.setIfInBounds_toArray,List.set_cons_zero,List.set_cons_succ] at ha
    subst ha
    have hc := HK.out wr hO
    have p0 := hc.2.2.1.1
    have p1 := hc.2.2.1.2.1
    have p2 := hc.2.2.1.2.2.1
    have p3 := hc.2.2.1.2.2.2.1
    have p4 := hc.2.2.1.2.2.2.2.1
    have p5 := hc.2.2.1.2.2.2.2.2.1
    have p6 := hc.2.2.1.2.2.2.2.2.2.1
    have p7 := hc.2.2.1.2.2.2.2.2.2.2.1
    have p8 := hc.2.2.1.2.2.2.2.2.2.2.2.1
    have p9 := hc.2.2.1.2.2.2.2.2.2.2.2.2.1
    have p10 := hc.2.2.1.2.2.2.2.2.2.2.2.2.2.1
    have p11 := hc.2.2.1.2.2.2.2.2.2.2.2.2.2.2.1
    have p12 := hc.2.2.1.2.2.2.2.2.2.2.2.2.2.2.2.1
    have p13 := hc.2.2.1.2.2.2.2.2.2.2.2.2.2.2.2.2
    clear hc
    go_simp
    refine hK.out _ _ ⟨_,_,_,_,_,_,_,_,_,_,_,_,_,_,_,_,_,?_,s0.keep rfl,s1.keep rfl,s2.keep rfl,s3.keep rfl,Slot.new _ _ _,s5.keep rfl,s6.keep rfl,s7.keep rfl,s8.keep rfl,s9.keep rfl,s10.keep rfl,s11.keep rfl,s12.keep rfl,s13.keep rfl,s14.keep rfl,s15.keep rfl,s16.keep rfl,O0.keep (Off.refl _ wr) rfl,P10_17.keep rfl,hO⟩
    simp only [Act.put,List.setIfInBounds_toArray,List.set_cons_zero,List.set_cons_succ]
   ·intro l a wr hI hl hd K' hK
    obtain ⟨u39,u40,u41,u42,u43,u44,u45,u46,u47,u48,u49,u50,u51,u52,u53,u54,u55,ha,s0,s1,s2,s3,s4,s5,s6,s7,s8,s9,s10,s11,s12,s13,s14,s15,s16,O0,P10_17,hO⟩ := hI
    simp only [Act.put,List.setIfInBounds_toArray,List.set_cons_zero,List.set_cons_succ] at ha
    subst ha
    have hc := HK.out wr hO
    have p0 := hc.1
    clear hc
    go_simp
    refine hK.out _ _ ⟨_,_,_,_,_,_,_,_,_,_,_,_,_,_,_,_,_,?_,s0.keep rfl,s1.keep rfl,s2.keep rfl,s3.keep rfl,s4.keep rfl,Slot.new _ _ _,s6.keep rfl,s7.keep rfl,s8.keep rfl,s9.keep rfl,s10.keep rfl,s11.keep rfl,s12.keep rfl,s13.keep rfl,s14.keep rfl,s15.keep rfl,s16.keep rfl,O0.keep (Off.refl _ wr) rfl,P10_17.keep rfl,hO⟩
    simp only [Act.put,List.setIfInBounds_toArray,List.set_cons_zero,List.set_cons_succ]
   ·intro l a wr hI hl hd K' hK
    obtain ⟨u39,u40,u41,u42,u43,u44,u45,u46,u47,u48,u49,u50,u51,u52,u53,u54,u55,ha,s0,s1,s2,s3,s4,s5,s6,s7,s8,s9,s10,s11,s12,s13,s14,s15,s16,O0,P10_17,hO⟩ := hI
    simp only [Act.put,List.setIfInBounds_toArray,List.set_cons_zero,List.set_cons_succ] at ha
    subst ha
    have hc := HK.out wr hO
    have p0 := hc.2.1
    clear hc
    go_simp
    refine hK.out _ _ ⟨_,_,_,_,_,_,_,_,_,_,_,_,_,_,_,_,_,?_,s0.keep rfl,s1.keep rfl,s2.keep rfl,s3.keep rfl,s4.keep rfl,s5.keep rfl,Slot.new _ _ _,s7.keep rfl,s8.keep rfl,s9.keep rfl,s10.keep rfl,s11.keep rfl,s12.keep rfl,s13.keep rfl,s14.keep rfl,s15.keep rfl,s16.keep rfl,O0.keep (Off.refl _ wr) rfl,P10_17.keep rfl,hO⟩
    simp only [Act.put,List.setIfInBounds_toArray,List.set_cons_zero,List.set_cons_succ]
   ·intro l a wr hI hl hd K' hK
    obtain ⟨u39,u40,u41,u42,u43,u44,u45,u46,u47,u48,u49,u50,u51,u52,u53,u54,u55,ha,s0,s1,s2,s3,s4,s5,s6,s7,s8,s9,s10,s11,s12,s13,s14,s15,s16,O0,P10_17,hO⟩ := hI
    simp only [Act.put,List.setIfInBounds_toArray,List.set_cons_zero,List.set_cons_succ] at ha
    subst ha
    go_simp
    refine hK.out _ _ ⟨_,_,_,_,_,_,_,_,_,_,_,_,_,_,_,_,_,?_,s0.keep rfl,s1.keep rfl,s2.keep rfl,s3.keep rfl,s4.keep rfl,s5.keep rfl,s6.keep rfl,Slot.new _ _ _,s8.keep rfl,s9.keep rfl,s10.keep rfl,s11.keep rfl,s12.keep rfl,s13.keep rfl,s14.keep rfl,s15.keep rfl,s16.keep rfl,O0.keep (Off.refl _ wr) rfl,P10_17.keep rfl,hO⟩
    simp only [Act.put,List.setIfInBounds_toArray,List.set_cons_zero,List.set_cons_succ]
   ·intro l a wr hI hl hd K' hK
    obtain ⟨u39,u40,u41,u42,u43,u44,u45,u46,u47,u48,u49,u50,u51,u52,u53,u54,u55,ha,s0,s1,s2,s3,s4,s5,s6,s7,s8,s9,s10,s11,s12,s13,s14,s15,s16,O0,P10_17,hO⟩ := hI
    simp only [Act.put,List.setIfInBounds_toArray,List.set_cons_zero,List.set_cons_succ] at ha
    have q6 := s6 (hd 6 (by decide))
    have q7 := s7 (hd 7 (by decide))
    subst ha q6 q7
    go_simp
    refine hK.out _ _ ⟨_,_,_,_,_,_,_,_,_,_,_,_,_,_,_,_,_,?_,s0.keep rfl,s1.keep rfl,s2.keep rfl,s3.keep rfl,s4.keep rfl,s5.keep rfl,s6.keep rfl,s7.keep rfl,Slot.new _ _ _,s9.keep rfl,s10.keep rfl,s11.keep rfl,s12.keep rfl,s13.keep rfl,s14.keep rfl,s15.keep rfl,s16.keep rfl,O0.keep (Off.refl _ wr) rfl,P10_17.keep rfl,hO⟩
    simp only [Act.put,List.setIfInBounds_toArray,List.set_cons_zero,List.set_cons_succ]
   ·intro l a wr hI hl hd K' hK
    obtain ⟨u39,u40,u41,u42,u43,u44,u45,u46,u47,u48,u49,u50,u51,u52,u53,u54,u55,ha,s0,s1,s2,s3,s4,s5,s6,s7,s8,s9,s10,s11,s12,s13,s14,s15,s16,O0,P10_17,hO⟩ := hI
    simp only [Act.put,List.setIfInBounds_toArray,List.set_cons_zero,List.set_cons_succ] at ha
    have q5 := s5 (hd 5 (by decide))
    have q8 := s8 (hd 8 (by decide))
    subst ha q5 q8
    go_simp
    refine hK.out _ _ ⟨_,_,_,_,_,_,_,_,_,_,_,_,_,_,_,_,_,?_,s0.keep rfl,s1.keep rfl,s2.keep rfl,s3.keep rfl,s4.keep rfl,s5.keep rfl,s6.keep rfl,s7.keep rfl,s8.keep rfl,Slot.new _ _ _,s10.keep rfl,s11.keep rfl,s12.keep rfl,s13.keep rfl,s14.keep rfl,s15.keep rfl,s16.keep rfl,O0.keep (Off.refl _ wr) rfl,P10_17.keep rfl,hO⟩
    simp only [Act.put,List.setIfInBounds_toArray,List.set_cons_zero,List.set_cons_succ]
   ·intro l a wr hI hl hd K' hK
    obtain ⟨u39,u40,u41,u42,u43,u44,u45,u46,u47,u48,u49,u50,u51,u52,u53,u54,u55,ha,s0,s1,s2,s3,s4,s5,s6,s7,s8,s9,s10,s11,s12,s13,s14,s15,s16,O0,P10_17,hO⟩ := hI
    simp only [Act.put,List.setIfInBounds_toArray,List.set_cons_zero,List.set_cons_succ] at ha
    have q9 := s9 (hd 9 (by decide))
    subst ha q9
    have hZ := O0.was (P10_17 hl)
    obtain ⟨p0,p1,p2,p3⟩ := NumsAt.cell hZ HOj.out
    clear hZ
    go_simp
    refine hK.out _ _ ⟨_,_,_,_,_,_,_,_,_,_,_,_,_,_,_,_,_,?_,s0.keep rfl,s1.keep rfl,s2.keep rfl,s3.keep rfl,s4.keep rfl,s5.keep rfl,s6.keep rfl,s7.keep rfl,s8.keep rfl,s9.keep rfl,Slot.new _ _ _,s11.keep rfl,s12.keep rfl,s13.keep rfl,s14.keep rfl,s15.keep rfl,s16.keep rfl,O0.keep (Off.refl _ wr) rfl,P10_17.keep rfl,hO⟩
    simp only [Act.put,List.setIfInBounds_toArray,List.set_cons_zero,List.set_cons_succ]
   ·intro l a wr hI hl hd K' hK
    obtain ⟨u39,u40,u41,u42,u43,u44,u45,u46,u47,u48,u49,u50,u51,u52,u53,u54,u55,ha,s0,s1,s2,s3,s4,s5,s6,s7,s8,s9,s10,s11,s12,s13,s14,s15,s16,O0,P10_17,hO⟩ := hI
    simp only [Act.put,List.setIfInBounds_toArray,List.set_cons_zero,List.set_cons_succ] at ha
    subst ha
    have hc := HK.out wr hO
    have p0 := hc.2.2.1.1
    have p1 := hc.2.2.1.2.1
    have p2 := hc.2.2.1.2.2.1
    have p3 := hc.2.2.1.2.2.2.1
    have p4 := hc.2.2.1.2.2.2.2.1
    have p5 := hc.2.2.1.2.2.2.2.2.1
    have p6 := hc.2.2.1.2.2.2.2.2.2.1
    have p7 := hc.2.2.1.2.2.2.2.2.2.2.1
    have p8 := hc.2.2.1.2.2.2.2.2.2.2.2.1
    have p9 := hc.2.2.1.2.2.2.2.2.2.2.2.2.1
    have p10 := hc.2.2.1.2.2.2.2.2.2.2.2.2.2.1
    have p11 := hc.2.2.1.2.2.2.2.2.2.2.2.2.2.2.1
    have p12 := hc.2.2.1.2.2.2.2.2.2.2.2.2.2.2.2.1
    have p13 := hc.2.2.1.2.2.2.2.2.2.2.2.2.2.2.2.2
    clear hc
    go_simp
    refine hK.out _ _ ⟨_,_,_,_,_,_,_,_,_,_,_,_,_,_,_,_,_,?_,s0.keep rfl,s1.keep rfl,s2.keep rfl,s3.keep rfl,s4.keep rfl,s5.keep rfl,s6.keep rfl,s7.keep rfl,s8.keep rfl,s9.keep rfl,s10.keep rfl,Slot.new _ _ _,s12.keep rfl,s13.keep rfl,s14.keep rfl,s15.keep rfl,s16.keep rfl,O0.keep (Off.refl _ wr) rfl,P10_17.keep rfl,hO⟩
    simp only [Act.put,List.setIfInBounds_toArray,List.set_cons_zero,List.set_cons_succ]
   ·intro l a wr hI hl hd K' hK
    obtain ⟨u39,u40,u41,u42,u43,u44,u45,u46,u47,u48,u49,u50,u51,u52,u53,u54,u55,ha,s0,s1,s2,s3,s4,s5,s6,s7,s8,s9,s10,s11,s12,s13,s14,s15,s16,O0,P10_17,hO⟩ := hI
    simp only [Act.put,List.setIfInBounds_toArray,List.set_cons_zero,List.set_cons_succ] at ha
    subst ha
    have hc := HK.out wr hO
    have p0 := hc.2.2.2.1.1
    have p1 := hc.2.2.2.1.2.1
    have p2 := hc.2.2.2.1.2.2.1
    have p3 := hc.2.2.2.1.2.2.2
    clear hc
    go_simp
    refine hK.out _ _ ⟨_,_,_,_,_,_,_,_,_,_,_,_,_,_,_,_,_,?_,s0.keep rfl,s1.keep rfl,s2.keep rfl,s3.keep rfl,s4.keep rfl,s5.keep rfl,s6.keep rfl,s7.keep rfl,s8.keep rfl,s9.keep rfl,s10.keep rfl,s11.keep rfl,Slot.new _ _ _,s13.keep rfl,s14.keep rfl,s15.keep rfl,s16.keep rfl,O0.keep (Off.refl _ wr) rfl,P10_17.keep rfl,hO⟩
    simp only [Act.put,List.setIfInBounds_toArray,List.set_cons_zero,List.set_cons_succ]
   ·intro l a wr hI hl hd K' hK
    obtain ⟨u39,u40,u41,u42,u43,u44,u45,u46,u47,u48,u49,u50,u51,u52,u53,u54,u55,ha,s0,s1,s2,s3,s4,s5,s6,s7,s8,s9,s10,s11,s12,s13,s14,s15,s16,O0,P10_17,hO⟩ := hI
    simp only [Act.put,List.setIfInBounds_toArray,List.set_cons_zero,List.set_cons_succ] at ha
    subst ha
    have hc := HK.out wr hO
    have p0 := hc.2.2.2.2.1.1
    have p1 := hc.2.2.2.2.1.2.1
    have p2 := hc.2.2.2.2.1.2.2.1
    have p3 := hc.2.2.2.2.1.2.2.2
    clear hc
    go_simp
    refine hK.out _ _ ⟨_,_,_,_,_,_,_,_,_,_,_,_,_,_,_,_,_,?_,s0.keep rfl,s1.keep rfl,s2.keep rfl,s3.keep rfl,s4.keep rfl,s5.keep rfl,s6.keep rfl,s7.keep rfl,s8.keep rfl,s9.keep rfl,s10.keep rfl,s11.keep rfl,s12.keep rfl,Slot.new _ _ _,s14.keep rfl,s15.keep rfl,s16.keep rfl,O0.keep (Off.refl _ wr) rfl,P10_17.keep rfl,hO⟩
    simp only [Act.put,List.setIfInBounds_toArray,List.set_cons_zero,List.set_cons_succ]
   ·intro l a wr hI hl hd K' hK
    obtain ⟨u39,u40,u41,u42,u43,u44,u45,u46,u47,u48,u49,u50,u51,u52,u53,u54,u55,ha,s0,s1,s2,s3,s4,s5,s6,s7,s8,s9,s10,s11,s12,s13,s14,s15,s16,O0,P10_17,hO⟩ := hI
    simp only [Act.put,List.setIfInBounds_toArray,List.set_cons_zero,List.set_cons_succ] at ha
    have q11 := s11 (hd 11 (by decide))
    have q12 := s12 (hd 12 (by decide))
    have q13 := s13 (hd 13 (by decide))
    subst ha q11 q12 q13
    go_simp
    refine (held_inv (HMu.out wr) hO).mono ?_
    rintro e w1 ⟨rfl,hO1,hOW⟩
    go_wp2_with fail
    refine hK.out _ _ ⟨_,_,_,_,_,_,_,_,_,_,_,_,_,_,_,_,_,?_,s0.keep rfl,s1.keep rfl,s2.keep rfl,s3.keep rfl,s4.keep rfl,s5.keep rfl,s6.keep rfl,s7.keep rfl,s8.keep rfl,s9.keep rfl,s10.keep rfl,s11.keep rfl,s12.keep rfl,s13.keep rfl,Slot.new _ _ _,s15.keep rfl,s16.keep rfl,O0.keep hOW rfl,P10_17.keep rfl,hO1⟩
    simp only [Act.put,List.setIfInBounds_toArray,List.set_cons_zero,List.set_cons_succ]
   ·intro l a wr hI hl hd K' hK
    obtain ⟨u39,u40,u41,u42,u43,u44,u45,u46,u47,u48,u49,u50,u51,u52,u53,u54,u55,ha,s0,s1,s2,s3,s4,s5,s6,s7,s8,s9,s10,s11,s12,s13,s14,s15,s16,O0,P10_17,hO⟩ := hI
    simp only [Act.put,List.setIfInBounds_toArray,List.set_cons_zero,List.set_cons_succ] at ha
    have q4 := s4 (hd 4 (by decide))
    have q10 := s10 (hd 10 (by decide))
    have q14 := s14 (hd 14 (by decide))
    subst ha q4 q10 q14
    go_simp
    refine (held_inv (HAd.out wr) hO).mono ?_
    rintro e w1 ⟨rfl,hO1,hOW⟩
    go_wp2_with fail
    refine hK.out _ _ ⟨_,_,_,_,_,_,_,_,_,_,_,_,_,_,_,_,_,?_,s0.keep rfl,s1.keep rfl,s2.keep rfl,s3.keep rfl,s4.keep rfl,s5.keep rfl,s6.keep rfl,s7.keep rfl,s8.keep rfl,s9.keep rfl,s10.keep rfl,s11.keep rfl,s12.keep rfl,s13.keep rfl,s14.keep rfl,Slot.new _ _ _,s16.keep rfl,O0.keep hOW rfl,P10_17.keep rfl,hO1⟩
    simp only [Act.put,List.setIfInBounds_toArray,List.set_cons_zero,List.set_cons_succ]
   ·intro l a wr hI hl hd K' hK
    obtain ⟨u39,u40,u41,u42,u43,u44,u45,u46,u47,u48,u49,u50,u51,u52,u53,u54,u55,ha,s0,s1,s2,s3,s4,s5,s6,s7,s8,s9,s10,s11,s12,s13,s14,s15,s16,O0,P10_17,hO⟩ := hI
    simp only [Act.put,List.setIfInBounds_toArray,List.set_cons_zero,List.set_cons_succ] at ha
    have q0 := s0 (hd 0 (by decide))
    have q3 := s3 (hd 3 (by decide))
    subst ha q0 q3
    go_simp
    refine hK.out _ _ ⟨_,_,_,_,_,_,_,_,_,_,_,_,_,_,_,_,_,?_,s0.keep rfl,s1.keep rfl,s2.keep rfl,s3.keep rfl,s4.keep rfl,s5.keep rfl,s6.keep rfl,s7.keep rfl,s8.keep rfl,s9.keep rfl,s10.keep rfl,s11.keep rfl,s12.keep rfl,s13.keep rfl,s14.keep rfl,s15.keep rfl,Slot.new _ _ _,O0.keep (Off.refl _ wr) rfl,P10_17.keep rfl,hO⟩
    simp only [Act.put,List.setIfInBounds_toArray,List.set_cons_zero,List.set_cons_succ]
   ·intro l a wr hI hl hd K' hK
    obtain ⟨u39,u40,u41,u42,u43,u44,u45,u46,u47,u48,u49,u50,u51,u52,u53,u54,u55,ha,s0,s1,s2,s3,s4,s5,s6,s7,s8,s9,s10,s11,s12,s13,s14,s15,s16,O0,P10_17,hO⟩ := hI
    simp only [Act.put,List.setIfInBounds_toArray,List.set_cons_zero,List.set_cons_succ] at ha
    have q16 := s16 (hd 16 (by decide))
    have q15 := s15 (hd 15 (by decide))
    subst ha q16 q15
    have hZ := (O0.was hl)
    obtain ⟨m0,m1,m2,m3⟩ := NumsAt.cell hZ HOj.out
    have fz := fun j => NumsAt.frozen hZ j
    have lt := heap_lt hZ
    clear hZ
    go_simp
    refine hK.out _ _ ⟨_,_,_,_,_,_,_,_,_,_,_,_,_,_,_,_,_,?_,s0.keep rfl,s1.keep rfl,s2.keep rfl,s3.keep rfl,s4.keep rfl,s5.keep rfl,s6.keep rfl,s7.keep rfl,s8.keep rfl,s9.keep rfl,s10.keep rfl,s11.keep rfl,s12.keep rfl,s13.keep rfl,s14.keep rfl,s15.keep rfl,s16.keep rfl,O0.putAt (HPt.out wr) hl,Dep.at (hd 10 (by decide)),setCells_in_at hO (fun _ => rfl) (words4 z)⟩
    simp only [Act.put,List.setIfInBounds_toArray,List.set_cons_zero,List.set_cons_succ]
   ·intro l a wc hI hd
    obtain ⟨u39,u40,u41,u42,u43,u44,u45,u46,u47,u48,u49,u50,u51,u52,u53,u54,u55,ha,s0,s1,s2,s3,s4,s5,s6,s7,s8,s9,s10,s11,s12,s13,s14,s15,s16,O0,P10_17,hO⟩ := hI
    simp only [Act.put,List.setIfInBounds_toArray,List.set_cons_zero,List.set_cons_succ] at ha
    have q0 := s0 (hd 0 (by decide))
    have q1 := s1 (hd 1 (by decide))
    have q2 := s2 (hd 2 (by decide))
    have q3 := s3 (hd 3 (by decide))
    have q4 := s4 (hd 4 (by decide))
    have q5 := s5 (hd 5 (by decide))
    have q6 := s6 (hd 6 (by decide))
    have q7 := s7 (hd 7 (by decide))
    have q8 := s8 (hd 8 (by decide))
    have q9 := s9 (hd 9 (by decide))
    have q10 := s10 (hd 10 (by decide))
    have q11 := s11 (hd 11 (by decide))
    have q12 := s12 (hd 12 (by decide))
    have q13 := s13 (hd 13 (by decide))
    have q14 := s14 (hd 14 (by decide))
    have q15 := s15 (hd 15 (by decide))
    have q16 := s16 (hd 16 (by decide))
    have r0 : wc.heap[arr]? = some (.cells (flat4 (L1.set g z)).toArray 29) := O0.now (hd 17 (by decide))
    subst ha q0 q1 q2 q3 q4 q5 q6 q7 q8 q9 q10 q11 q12 q13 q14 q15 q16
    clear hd s0 s1 s2 s3 s4 s5 s6 s7 s8 s9 s10 s11 s12 s13 s14 s15 s16 O0 P10_17
    refine ⟨rfl,hO,H1.out.trans (hO.quiet (fun _ _ c => .inr c)),?_⟩
    rw [HSn2.out,HLs.out]
    exact r0
  case done2 =>
   rintro ys A rfl ⟨h1,h2⟩ hP
   rw [<- HSn.out] at h2
   obtain ⟨S2,t1,t2⟩ := hP
   rw [ext_ext,<- HSe.out] at t1
   have hC2 := HC.out.round HB.out h1 h2 t1 (fun k c => (t2 k c).imp (fun c => c) (fun d => by have hb3 := HBk3.out; omega))
   clear hseq t1 h2 hr3
   gi_wp2
   exact ⟨⟨h1.size,fun k o hk ho hc => h1.others k o (heap_lt ho) ho hc⟩,fun _ => hC2.src,S2,hC2,by simp; omega⟩
 case done =>
  rintro D ys A hD rfl ⟨S',hC,_⟩ hK
  have HAr := Lib.hid hC.ars
  have m0 : A.cell? ⟨sb,0,none⟩ = some (.slice (some ⟨arr,0,none⟩) N N) := cell_of_heap hC.sx 0
  have HCf := Lib.hid hC
  clear hC hst
  gi_wp2
  refine ⟨by simp,.inl ⟨_,_,rfl,run_takeDeferred hK,?_⟩⟩
  have hb := HBk.out
  have hk1 := HCf.out.kept (grownBy_putObj' A D (.deferred none)) (fun r e => by cases e; exact ⟨by omega,_,hK,rfl⟩)
  refine ⟨_,results_tmp rfl _ _ _,⟨arr,rfl,by omega,?_,⟨S',hk1.tp,fun b c => (hk1.new b c).imp (fun c => c) (fun h => by omega)⟩,hk1.off⟩⟩
  have h := hk1.ars
  unfold mulL
  rw [if_neg (by have := HN.out; have := HN2.out; omega),<- HN.out]
  exact h
 case stop =>
  rintro D' c pre W _ _ h _
  exact h.elim
end Go.Proofs.YtggebccgiigboaaDoor
-- squeezed
