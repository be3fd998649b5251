/-
  Sharings in plain terms: the polynomials of a secret's chunks, the shares of polynomials, the errors, the events. Plain facts.
-/
import Derived.Test.YtclehgconbdkpaaDoorParGrp
import Derived.Test.YtclehgconbdkpaaDoorSrcGrp
import Derived.Test.YtclehgconbdkpaaDoorChkGrp
import Derived.Test.YtclehgconbdkpaaDoorPolCore
namespace Go.Proofs.YtclehgconbdkpaaDoor
/-- The threshold, as a number. -/
def Pms.T (q : Pms) : Nat := q.th.toNat
/-- The number of chunks. -/
def Pms.cn (q : Pms) : Nat := cntI q.ln
/-- The polynomial of the chunk with the index i: its coefficients, not reduced. -/
def polN (q : Pms) (sec rnd : List Nat) (i : Nat) : List Nat := numB (chk sec i) :: elsK (rnd.drop (64 * ((q.T - 1) * i))) (q.T - 1)
def polsN (q : Pms) (sec rnd : List Nat) : List (List Nat) := (List.range q.cn).map (polN q sec rnd)
/-- The error of Polynomials. -/
def polE (q : Pms) (sec rnd : List Nat) : Nat := if prN q ≠ 0 then prN q else if (sec.length : Int) ≠ q.ln then 8 else if (rnd.length : Int) < rndN q then 7 else 0
/-- The payload of the share with the index i: the elements' numbers. -/
def payN (p : Nat) (cs : List (List Nat)) (i : Nat) : List Nat := cs.map fun c => fm p (pv c i % p)
def shrN (q : Pms) (p : Nat) (cs : List (List Nat)) (i : Nat) : Sh := ⟨q.fd, q.th, (i : Int), q.ln, payN p cs i⟩
def shrsN (q : Pms) (p : Nat) (cs : List (List Nat)) : List Sh := (List.range q.sh.toNat).map fun k => shrN q p cs (k + 1)
/-- The error of Evaluate for lists with these numbers of coefficients. -/
def evaE (q : Pms) (cs : List (List Nat)) : Nat := if prN q ≠ 0 then prN q else if cs.length ≠ q.cn ∨ ∃ c ∈ cs, c.length ≠ q.T then 8 else 0
theorem polN_length (q : Pms) (sec rnd : List Nat) (i : Nat) (h : 1 ≤ q.T) : (polN q sec rnd i).length = q.T := by simp [polN, elsK_length]; omega
theorem polsN_length (q : Pms) (sec rnd : List Nat) : (polsN q sec rnd).length = q.cn := by simp [polsN]
theorem polsN_get {q : Pms} {sec rnd : List Nat} {i : Nat} (h : i < q.cn) : (polsN q sec rnd)[i]? = some (polN q sec rnd i) := by simp [polsN, h]
theorem prN_ok {q : Pms} (h : prN q = 0) : Kn q.fd ∧ 1 ≤ q.sh ∧ q.sh ≤ 255 ∧ 1 ≤ q.th ∧ q.th ≤ q.sh ∧ 0 ≤ q.ln ∧ q.ln ≤ 65535 := by
  unfold prN at h
  split at h
  · exact absurd h (by decide)
  · next c1 =>
    split at h
    · exact absurd h (by decide)
    · split at h
      · exact absurd h (by decide)
      · split at h
        · exact absurd h (by decide)
        · exact ⟨by simpa using c1, by omega, by omega, by omega, by omega, by omega, by omega⟩
theorem polE_ok {q : Pms} {sec rnd : List Nat} (h : polE q sec rnd = 0) : prN q = 0 ∧ (sec.length : Int) = q.ln ∧ 64 * ((q.T - 1) * q.cn) ≤ rnd.length := by
  unfold polE at h
  split at h
  · next c => exact absurd h c
  · next c1 =>
    have h0 : prN q = 0 := by omega
    split at h
    · exact absurd h (by decide)
    · split at h
      · exact absurd h (by decide)
      · next c2 c3 =>
        refine ⟨h0, by omega, ?_⟩
        have ho := prN_ok h0
        unfold rndN at c3
        rw [if_pos h0] at c3
        have e : (q.th - 1) = ((q.T - 1 : Nat) : Int) := by unfold Pms.T; omega
        rw [e] at c3
        have e2 : 64 * ((q.T - 1 : Nat) : Int) * (cntI q.ln : Int) = ((64 * ((q.T - 1) * q.cn) : Nat) : Int) := by unfold Pms.cn; push_cast; rw [Int.mul_assoc]
        rw [e2] at c3
        omega
theorem cntI_len {q : Pms} {sec : List Nat} (h : (sec.length : Int) = q.ln) (h2 : q.ln ≤ 65535) : q.cn = cntN sec.length := by
  unfold Pms.cn cntI
  rw [if_pos (by omega), ← h, Int.toNat_natCast]
/-- The events of the first k chunks of a share. -/
def chEv (T k : Nat) : List Ev := (List.range k).flatMap fun j : Nat => ((4 : Int), (j : Int), (0 : Int)) :: coefD T (List.range T)
/-- The events of the first k shares. -/
def dealEv (cn T k : Nat) : List Ev := (List.range k).flatMap fun j : Nat => ((5 : Int), ((j + 1 : Nat) : Int), (0 : Int)) :: chEv T cn
theorem chEv_zero (T : Nat) : chEv T 0 = [] := rfl
theorem chEv_succ (T k : Nat) : chEv T (k + 1) = chEv T k ++ (((4 : Int), (k : Int), (0 : Int)) :: coefD T (List.range T)) := by simp [chEv, List.range_succ]
theorem dealEv_succ (cn T k : Nat) : dealEv cn T (k + 1) = dealEv cn T k ++ (((5 : Int), ((k + 1 : Nat) : Int), (0 : Int)) :: chEv T cn) := by simp [dealEv, List.range_succ]
theorem coefD_len (T : Nat) : (coefD T (List.range T)).length = T := by simp [coefD]
theorem chEv_len (T : Nat) : ∀ k, (chEv T k).length = k * (1 + T)
  | 0 => by simp [chEv]
  | k + 1 => by rw [chEv_succ, List.length_append, chEv_len T k, List.length_cons, coefD_len, Nat.succ_mul]; omega
theorem dealEv_len (cn T : Nat) : ∀ k, (dealEv cn T k).length = k * (1 + cn * (1 + T))
  | 0 => by simp [dealEv]
  | k + 1 => by rw [dealEv_succ, List.length_append, dealEv_len cn T k, List.length_cons, chEv_len, Nat.succ_mul]; omega
end Go.Proofs.YtclehgconbdkpaaDoor
