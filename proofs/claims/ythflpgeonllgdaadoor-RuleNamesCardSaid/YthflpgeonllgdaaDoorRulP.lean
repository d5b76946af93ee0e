/- Layer 8: plain mathematics: which rules and askings may be. Nothing of the program. -/
import Derived.Test.YthflpgeonllgdaaDoorLabP
import Derived.Test.YthflpgeonllgdaaDoorNamPure2
namespace Go.Proofs.YthflpgeonllgdaaDoor.rul
open Go.Proofs.YthflpgeonllgdaaDoor.nam Go.Proofs.YthflpgeonllgdaaDoor.lab

def starL (l : List UInt8) : Bool := l == [42]
def starIn (l : List UInt8) : Bool := l.any (· == 42)
def plainL (l : List UInt8) : Bool := segB l && !starIn l
def verbE (l : List UInt8) : Bool := starL l || verbB l
def groupE (l : List UInt8) : Bool := starL l || (l.isEmpty || subB l)
def wholeE (l : List UInt8) : Bool := starL l || plainL l
def resE (l : List UInt8) : Bool := wholeE (Lib.cut l [47]).1 && (!(Lib.cut l [47]).2.2 || plainL (Lib.cut l [47]).2.1)
def trimL (l : List UInt8) : List UInt8 := if Lib.hasSuffix l [42] then l.take (l.length - 1) else l
def pathE (l : List UInt8) : Bool := starL l || (pathB l && !starIn (trimL l))
/-- The document's, by its parts. -/
def refRes (ps : List (List UInt8)) : Bool := if (!starL (ps.headD []) && !plainL (ps.headD [])) || decide (2 < ps.length) then false else if ps.length = 1 then true else plainL ((ps.drop 1).headD [])
def refPath (l : List UInt8) : Bool := if starL l then true else pathB l && !starIn (l.take (l.length - 1))

theorem plain_slash {l : List UInt8} (h : (47 : UInt8) ∈ l) : plainL l = false := by
  cases e : plainL l
  · rfl
  · unfold plainL at e
    rw [Bool.and_eq_true] at e
    have := (segB_iff.1 e.1).2.1 47 h
    revert this; decide
theorem refRes_eq (l : List UInt8) : refRes (spl 47 l) = resE l := by
  unfold resE refRes wholeE
  rcases spl_cut 47 l with ⟨h1, h2⟩ | ⟨h1, h2, h3⟩
  · have h4 : (Lib.cut l [47]).1 = l := by
      have hi := Lib.index_ge l [47]
      unfold Lib.cut at h1 ⊢
      split at h1
      · cases h1
      · rename_i hc; rw [if_neg hc]
    rw [h1, h2, h4]
    cases hs : starL l <;> cases hp : plainL l <;> simp [hs, hp]
  · rw [h1, h2]
    generalize (Lib.cut l [47]).1 = x
    generalize (Lib.cut l [47]).2.1 = y
    rcases spl_cut 47 y with ⟨_, h4⟩ | ⟨_, h4, h5⟩
    · rw [h4]
      cases hs : starL x <;> cases hp : plainL x <;> simp [hs, hp]
    · have hy : plainL y = false := plain_slash (by rw [h5]; simp)
      have hl := List.length_pos_iff.2 (spl_ne 47 (Lib.cut y [47]).2.1)
      have h6 : 2 < (x :: spl 47 y).length := by rw [h4]; simp; omega
      rw [decide_eq_true h6, Bool.or_true, if_pos rfl, hy]
      simp
theorem suffix_last (l : List UInt8) : Lib.hasSuffix l [42] = (l.getLast? == some 42) := by
  unfold Lib.hasSuffix
  rcases List.eq_nil_or_concat l with rfl | ⟨a, b, rfl⟩
  · decide
  · simp [List.isSuffixOf, List.isPrefixOf]
    rw [Bool.eq_iff_iff, beq_iff_eq, beq_iff_eq]; exact eq_comm
theorem refPath_eq (l : List UInt8) : refPath l = pathE l := by
  unfold refPath pathE trimL
  cases hs : starL l
  · rw [if_neg (by decide), Bool.false_or]
    congr 2
    rcases List.eq_nil_or_concat l with rfl | ⟨a, b, rfl⟩
    · rfl
    · rw [suffix_last]
      by_cases hb : b = 42
      · subst hb; simp
      · have h1 : ((a.concat b).getLast? == some 42) = false := by simp [hb]
        rw [h1, if_neg (by decide)]
        unfold starIn
        simp [hb]
  · rfl
end Go.Proofs.YthflpgeonllgdaaDoor.rul
