/- Layer 3: the contracts of the document's own seen, Verb, Segment, Path. -/
import Derived.Test.YtodobacgbbpmfaaDoorNamRef
namespace Go.Proofs.YtodobacgbbpmfaaDoor.nam
open Go.RowKit Go.Shelf

def notB (q : Nat → Bool) (b : Nat) : Bool := !q b
theorem madeB_same {P : Nat → Bool} {l : List UInt8} : madeB P P l = true ↔ ∀ i, i < l.length → P (l.getD i 0).toNat = true := by
  rw [madeB_iff]; exact ⟨fun h i hi => by rw [← tst_same P l i]; exact h i hi, fun h i hi => by rw [tst_same]; exact h i hi⟩
theorem madeB_but (p q : Nat → Bool) (l : List UInt8) : madeB (butB p q) (butB p q) l = (madeB p p l && madeB (notB q) (notB q) l) := by
  rw [Bool.eq_iff_iff, Bool.and_eq_true, madeB_same, madeB_same, madeB_same]
  unfold butB notB
  exact ⟨fun h => ⟨fun i hi => (Bool.and_eq_true_iff.1 (h i hi)).1, fun i hi => (Bool.and_eq_true_iff.1 (h i hi)).2⟩, fun h i hi => Bool.and_eq_true_iff.2 ⟨h.1 i hi, h.2 i hi⟩⟩
theorem tst_at (P : Nat → Bool) (s : ByteArray) (k : Nat) (h : k < s.size) : tst P P s.data.toList k = P s[k].toNat := by
  rw [tst_same, getD_data s k h]

theorem prefix_head (s : ByteArray) (h : 1 ≤ s.size) : Lib.hasPrefix s.data.toList [47] = decide (s[0].toNat = 47) := by
  have hl := len_data s
  cases e : s.data.toList with
  | nil => rw [e] at hl; simp at hl; omega
  | cons a l =>
    have h0 : s[0] = a := by
      have := getD_data s 0 (by omega)
      rw [e] at this; exact this.symm
    rw [h0]
    unfold Lib.hasPrefix
    simp only [List.isPrefixOf, Bool.and_true]
    rw [Bool.eq_iff_iff, beq_iff_eq, decide_eq_true_iff]
    exact ⟨fun e => by rw [← e]; rfl, fun e => UInt8.toNat_inj.1 (by rw [e]; rfl)⟩
end Go.Proofs.YtodobacgbbpmfaaDoor.nam
