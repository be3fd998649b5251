/-
  Contracts of package sha's New, Len and Clone over this seat's translation. Conditions: as each says.
-/
import Derived.Test.YthjfhgnmaepafaaDoorShaHash
namespace Go.Proofs.YthjfhgnmaepafaaDoor
open Go.RowKit
set_option maxRecDepth 100000
set_option maxHeartbeats 4000000
set_option linter.unusedSimpArgs false
theorem len_any (p : Nat) (bs : List Nat) (w : World) (h : HashAt w p bs) :
    Calls Tryd.prog 17 #[.pointer (some ⟨p, 0, none⟩)] w fun e w' => e = .returned (.int .i64 (bs.length : Int)) ∧ w' = w := by
  obtain ⟨_, blk, _, hr, _⟩ := h
  have c := hr.len
  clear hr
  go_enter Tryd.func17, Tryd.ntmps17
  go_wp2
  go_ret
  exact ⟨rfl, rfl⟩
def hZ : Array Value := #[.int .u32 0, .int .u32 0, .int .u32 0, .int .u32 0, .int .u32 0, .int .u32 0, .int .u32 0, .int .u32 0, .int .u8 0, .int .u8 0, .int .u8 0, .int .u8 0, .int .u8 0, .int .u8 0, .int .u8 0, .int .u8 0, .int .u8 0, .int .u8 0, .int .u8 0, .int .u8 0, .int .u8 0, .int .u8 0, .int .u8 0, .int .u8 0, .int .u8 0, .int .u8 0, .int .u8 0, .int .u8 0, .int .u8 0, .int .u8 0, .int .u8 0, .int .u8 0, .int .u8 0, .int .u8 0, .int .u8 0, .int .u8 0, .int .u8 0, .int .u8 0, .int .u8 0, .int .u8 0, .int .u8 0, .int .u8 0, .int .u8 0, .int .u8 0, .int .u8 0, .int .u8 0, .int .u8 0, .int .u8 0, .int .u8 0, .int .u8 0, .int .u8 0, .int .u8 0, .int .u8 0, .int .u8 0, .int .u8 0, .int .u8 0, .int .u8 0, .int .u8 0, .int .u8 0, .int .u8 0, .int .u8 0, .int .u8 0, .int .u8 0, .int .u8 0, .int .u8 0, .int .u8 0, .int .u8 0, .int .u8 0, .int .u8 0, .int .u8 0, .int .u8 0, .int .u8 0, .int .i64 0]
theorem hash_info : (Tryd.prog.info? 46).map (fun i => i.zero) = some (some (.agg hZ)) := by kernel_rfl
theorem zero_hash' (w : World) : (zeroValue 46).run Tryd.prog w = .ok (.agg hZ) w := by
  obtain ⟨i, hi, hz⟩ := Option.map_eq_some_iff.1 hash_info
  simp [zeroValue, typeInfo, hi, hz]
theorem zero_hash (w : World) : (zeroValue 46).run Tryd.prog w = .ok (.agg #[.int .u32 0, .int .u32 0, .int .u32 0, .int .u32 0, .int .u32 0, .int .u32 0, .int .u32 0, .int .u32 0, .int .u8 0, .int .u8 0, .int .u8 0, .int .u8 0, .int .u8 0, .int .u8 0, .int .u8 0, .int .u8 0, .int .u8 0, .int .u8 0, .int .u8 0, .int .u8 0, .int .u8 0, .int .u8 0, .int .u8 0, .int .u8 0, .int .u8 0, .int .u8 0, .int .u8 0, .int .u8 0, .int .u8 0, .int .u8 0, .int .u8 0, .int .u8 0, .int .u8 0, .int .u8 0, .int .u8 0, .int .u8 0, .int .u8 0, .int .u8 0, .int .u8 0, .int .u8 0, .int .u8 0, .int .u8 0, .int .u8 0, .int .u8 0, .int .u8 0, .int .u8 0, .int .u8 0, .int .u8 0, .int .u8 0, .int .u8 0, .int .u8 0, .int .u8 0, .int .u8 0, .int .u8 0, .int .u8 0, .int .u8 0, .int .u8 0, .int .u8 0, .int .u8 0, .int .u8 0, .int .u8 0, .int .u8 0, .int .u8 0, .int .u8 0, .int .u8 0, .int .u8 0, .int .u8 0, .int .u8 0, .int .u8 0, .int .u8 0, .int .u8 0, .int .u8 0, .int .i64 0]) w := zero_hash' w
theorem new_any (w : World) (hT : TabAt w) :
    Calls Tryd.prog 14 #[] w fun e w' => ∃ p, e = .returned (.pointer (some ⟨p, 0, none⟩)) ∧ HashAt w' p [] ∧ Off (fun _ => False) w w' ∧ p = w.heap.size := by
  have m0 := hT.2 0 _ rfl
  have m1 := hT.2 1 _ rfl
  have m2 := hT.2 2 _ rfl
  have m3 := hT.2 3 _ rfl
  have m4 := hT.2 4 _ rfl
  have m5 := hT.2 5 _ rfl
  have m6 := hT.2 6 _ rfl
  have m7 := hT.2 7 _ rfl
  have hz := zero_hash
  clear hT
  go_enter Tryd.func14, Tryd.ntmps14
  go_wp2
  go_ret
  refine ⟨_, rfl, ?_, (Off.refl _ w).alloc _, rfl⟩
  refine ⟨fun x hx => (by cases hx), List.replicate 64 0, fun x hx => (by rw [(List.mem_replicate.1 hx).2]; decide), ⟨by simp, ?_⟩, rfl⟩
  unfold HBlk
  rw [heap_new' rfl _]
  rfl
theorem clone_any (p : Nat) (bs : List Nat) (w : World) (h : HashAt w p bs) :
    Calls Tryd.prog 18 #[.pointer (some ⟨p, 0, none⟩)] w fun e w' => ∃ q, e = .returned (.pointer (some ⟨q, 0, none⟩)) ∧ HashAt w' q bs ∧ Off (fun _ => False) w w' ∧ q = w.heap.size := by
  obtain ⟨hs, blk, hb, hr, ht⟩ := h
  obtain ⟨cs, hcs⟩ : ∃ cs, cs = ((stV bs).list.map u32v ++ (blk.map u8v ++ [Value.int .i64 (bs.length : Int)])).toArray := ⟨_, rfl⟩
  have hcz : cs.size = 73 := by
    have := hr.1
    rw [hcs]; simp [W8.list]; omega
  have hi0 : (Tryd.prog.info? 46).map (·.size) = some 73 := by kernel_rfl
  have hi1 : (Tryd.prog.info? 46).map (·.size) = some cs.size := by rw [hcz]; exact hi0
  have hone : cs.all (·.oneCell') = true := by rw [hcs]; simp [Value.oneCell']
  have hZs : (Array.size (#[.int .u32 0, .int .u32 0, .int .u32 0, .int .u32 0, .int .u32 0, .int .u32 0, .int .u32 0, .int .u32 0, .int .u8 0, .int .u8 0, .int .u8 0, .int .u8 0, .int .u8 0, .int .u8 0, .int .u8 0, .int .u8 0, .int .u8 0, .int .u8 0, .int .u8 0, .int .u8 0, .int .u8 0, .int .u8 0, .int .u8 0, .int .u8 0, .int .u8 0, .int .u8 0, .int .u8 0, .int .u8 0, .int .u8 0, .int .u8 0, .int .u8 0, .int .u8 0, .int .u8 0, .int .u8 0, .int .u8 0, .int .u8 0, .int .u8 0, .int .u8 0, .int .u8 0, .int .u8 0, .int .u8 0, .int .u8 0, .int .u8 0, .int .u8 0, .int .u8 0, .int .u8 0, .int .u8 0, .int .u8 0, .int .u8 0, .int .u8 0, .int .u8 0, .int .u8 0, .int .u8 0, .int .u8 0, .int .u8 0, .int .u8 0, .int .u8 0, .int .u8 0, .int .u8 0, .int .u8 0, .int .u8 0, .int .u8 0, .int .u8 0, .int .u8 0, .int .u8 0, .int .u8 0, .int .u8 0, .int .u8 0, .int .u8 0, .int .u8 0, .int .u8 0, .int .u8 0, .int .i64 0] : Array Value)) = cs.size := by rw [hcz]; rfl
  have hG : w.heap[p]? = some (.cells cs 46 (0, 0)) := by rw [hcs]; exact hr.2
  have hz := zero_hash
  have HI := Lib.hid hi1
  have HZS := Lib.hid hZs
  have HONE := Lib.hid hone
  have HG := Lib.hid hG
  have HC := Lib.hid hcs
  have HR := Lib.hid hr.1
  clear hr hcs hcz hi0 hi1 hone hZs hG
  go_enter Tryd.func18, Tryd.ntmps18
  go_wp2_with first | (refine wpList_load_row rfl _ _ rfl _ rfl _ cs (0, 0) _ HG.out Tryd.underlying46 rfl HI.out ?_) | (refine wpList_store_row rfl _ _ _ rfl _ cs rfl rfl _ _ (heap_new' rfl _) HI.out HZS.out HONE.out ?_) | fail
  go_ret
  have hW := @new_row w #[.int .u32 0, .int .u32 0, .int .u32 0, .int .u32 0, .int .u32 0, .int .u32 0, .int .u32 0, .int .u32 0, .int .u8 0, .int .u8 0, .int .u8 0, .int .u8 0, .int .u8 0, .int .u8 0, .int .u8 0, .int .u8 0, .int .u8 0, .int .u8 0, .int .u8 0, .int .u8 0, .int .u8 0, .int .u8 0, .int .u8 0, .int .u8 0, .int .u8 0, .int .u8 0, .int .u8 0, .int .u8 0, .int .u8 0, .int .u8 0, .int .u8 0, .int .u8 0, .int .u8 0, .int .u8 0, .int .u8 0, .int .u8 0, .int .u8 0, .int .u8 0, .int .u8 0, .int .u8 0, .int .u8 0, .int .u8 0, .int .u8 0, .int .u8 0, .int .u8 0, .int .u8 0, .int .u8 0, .int .u8 0, .int .u8 0, .int .u8 0, .int .u8 0, .int .u8 0, .int .u8 0, .int .u8 0, .int .u8 0, .int .u8 0, .int .u8 0, .int .u8 0, .int .u8 0, .int .u8 0, .int .u8 0, .int .u8 0, .int .u8 0, .int .u8 0, .int .u8 0, .int .u8 0, .int .u8 0, .int .u8 0, .int .u8 0, .int .u8 0, .int .u8 0, .int .u8 0, .int .i64 0] cs 46
  refine ⟨_, rfl, ⟨hs, blk, hb, ⟨HR.out, ?_⟩, ht⟩, hW.2, rfl⟩
  unfold HBlk
  rw [← HC.out]
  exact hW.1
end Go.Proofs.YthjfhgnmaepafaaDoor
