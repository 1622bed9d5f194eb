/-
  Roles: the plain functions. No program is named here.
-/
import Derived.Test.YtagkpocagkfhoaaMem
namespace Go.Proofs.Ytagkpocagkfhoaa
def isR (n : Int) : Bool := decide (0 ≤ n) && decide (n ≤ 4)
def invR (n : Int) : Int := if n = 0 then 3 else if n = 1 then 2 else if n = 2 then 1 else if n = 3 then 0 else if n = 4 then 4 else -1
def downR (n : Int) : Bool := n == 0 || n == 1
def asnR (n : Int) : Bool := decide (1 ≤ n) && decide (n ≤ 4294967295)
/-- A hop: from, to, role. -/
structure HopZ where
  src : Int
  dst : Int
  role : Int
def HopZ.ok (h : HopZ) : Bool := isR h.role && asnR h.src && asnR h.dst
def okFrom : Option Int → Int → Bool
  | none, _ => true
  | some q, s => q == s
/-- Connected hops, behind one that ends at p (none: the first). -/
def conn : Option Int → List HopZ → Bool
  | _, [] => true
  | p, h :: t => h.ok && okFrom p h.src && conn (some h.dst) t
/-- What passes: b says that there was a hop that is not upward. -/
def runR : Bool → List HopZ → Bool
  | _, [] => true
  | b, h :: t => if downR h.role then runR true t else if b then false else runR (h.role == 4) t
theorem isR_cases {n : Int} (h : isR n = true) : n = 0 ∨ n = 1 ∨ n = 2 ∨ n = 3 ∨ n = 4 := by
  unfold isR at h
  simp at h
  omega
theorem isR_not {n : Int} (h : isR n = false) : n < 0 ∨ 4 < n := by
  unfold isR at h
  simp at h
  omega
theorem invR_bad {n : Int} (h : isR n = false) : invR n = -1 := by
  have := isR_not h
  unfold invR
  repeat (rw [if_neg (by omega)])
end Go.Proofs.Ytagkpocagkfhoaa
