/-
  Parameters and shares in plain terms: the errors of Check, CheckShare and CheckShares, the number of random bytes. Plain facts.
-/
import Derived.Test.YtmokaikofcbboaaDoorShr
import Derived.Test.YtmokaikofcbboaaDoorChkNum
import Derived.Test.YtmokaikofcbboaaDoorModGet
namespace Go.Proofs.YtmokaikofcbboaaDoor
/-- Parameters of a sharing. -/
structure Pms where
  fd : Int
  th : Int
  sh : Int
  ln : Int
def Pms.val (q : Pms) : Value := .agg #[.int .i64 q.fd, .int .i64 q.th, .int .i64 q.sh, .int .i64 q.ln]
def Pms.ok (q : Pms) : Prop := I64 q.fd ∧ I64 q.th ∧ I64 q.sh ∧ I64 q.ln
def Kn (id : Int) : Prop := id = 1 ∨ id = 2
instance (id : Int) : Decidable (Kn id) := inferInstanceAs (Decidable (id = 1 ∨ id = 2))
/-- Check. -/
def prN (q : Pms) : Nat := if ¬ Kn q.fd then 3 else if q.sh < 1 ∨ 255 < q.sh then 5 else if q.th < 1 ∨ q.sh < q.th then 4 else if q.ln < 0 ∨ 65535 < q.ln then 6 else 0
/-- Random. -/
def rndN (q : Pms) : Int := if prN q = 0 then 64 * (q.th - 1) * (cntI q.ln : Int) else 0
/-- CheckShare. -/
def shN (s : Sh) : Nat := if ¬ Kn s.fd then 3 else if s.th < 1 ∨ 255 < s.th then 4 else if s.ix < 1 ∨ 255 < s.ix then 12 else if s.ln < 0 ∨ 65535 < s.ln then 6 else if s.pl.length ≠ cntI s.ln then 8 else if ∀ x ∈ s.pl, x < modN s.fd then 0 else 9
theorem modN_pos {id : Int} (h : Kn id) : 1 < modN id ∧ modN id < R256 := by
  rcases h with rfl | rfl
  · decide
  · decide
end Go.Proofs.YtmokaikofcbboaaDoor
