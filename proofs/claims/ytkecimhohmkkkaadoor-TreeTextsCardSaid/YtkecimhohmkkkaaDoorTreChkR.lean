/- Layer 4: Check, as it goes, is the document's. -/
import Derived.Test.YtkecimhohmkkkaaDoorTreChk
import Derived.Test.YtkecimhohmkkkaaDoorTreRMake
namespace Go.Proofs.YtkecimhohmkkkaaDoor.tre
open Go.RowKit Go.Shelf

def GoodC (b : Bool × Int) (s D : Int) (c dp : Nat) (sh : Bool) : Prop :=
  (b.1 = true ↔ s + c ≤ 2000 ∧ D + dp ≤ 12 ∧ sh = true) ∧ (b.1 = true → b.2 = s + c)
theorem all_chk {E : Type} (f : Int → E → Bool × Int) (c dp : E → Nat) (sh : E → Bool) (D : Int) (hD : D ≤ 12) : ∀ (l : List E),
    (∀ x ∈ l, ∀ s : Int, 0 ≤ s → s + c x < 4611686018427387904 → GoodC (f s x) s D (c x) (dp x) (sh x)) →
    ∀ s : Int, 0 ≤ s → s ≤ 2000 → s + sumN (l.map c) < 4611686018427387904 → GoodC (allS f s l) s D (sumN (l.map c)) (maxN (l.map dp)) (l.all sh)
  | [], _, s, h0, h1, _ => by
    refine ⟨⟨fun _ => ⟨by simpa [sumN] using h1, by simpa [maxN] using hD, rfl⟩, fun _ => rfl⟩, fun _ => by simp [allS, sumN]⟩
  | x :: l, h, s, h0, h1, h2 => by
    simp only [List.map_cons, sumN, maxN, List.all_cons] at h2 ⊢
    have hx := h x (by simp) s h0 (by omega)
    unfold allS
    by_cases hb : (f s x).1 = true
    · rw [if_pos hb, hx.2 hb]
      have hc := hx.1.1 hb
      have ih := all_chk f c dp sh D hD l (fun y hy => h y (by simp [hy])) (s + c x) (by omega) hc.1 (by omega)
      refine ⟨⟨fun h3 => ?_, fun h3 => ?_⟩, fun h3 => ?_⟩
      · have := ih.1.1 h3
        refine ⟨by omega, by omega, ?_⟩
        rw [hc.2.2, this.2.2]; rfl
      · refine ih.1.2 ⟨by omega, by omega, ?_⟩
        have := h3.2.2
        rw [Bool.and_eq_true] at this
        exact this.2
      · rw [ih.2 h3]; omega
    · rw [if_neg hb]
      refine ⟨⟨fun h3 => by simp at h3, fun h3 => ?_⟩, fun h3 => by simp at h3⟩
      have h4 := h3.2.2
      rw [Bool.and_eq_true] at h4
      exact absurd (hx.1.2 ⟨by omega, by omega, h4.1⟩) hb
theorem walk_chk : ∀ (v : V) (key : ByteArray) (d s : Int), 0 ≤ s → s + countV v < 4611686018427387904 → GoodC (walkS chkN v key d s) s d (countV v) (depthV v) (shapeV v) := V.ind fun v ihl ihf => by
  intro key d s h0 h1
  have hc := countV_eq v
  have hd := depthV_eq v
  have hs := shapeV_eq v
  rw [walkS_eq]
  unfold chkN
  simp only
  rw [wr _ (by omega) (by omega)]
  by_cases hb : (decide (s + 1 ≤ 2000) && decide (d < 12) && fitsB v) = true
  · rw [if_pos hb]
    simp only [Bool.and_eq_true, decide_eq_true_eq] at hb
    obtain ⟨⟨b1, b2⟩, b3⟩ := hb
    rw [fitsB_head, Bool.and_eq_true] at b3
    have e1 := all_chk (inL chkN d) countV depthV shapeV (d + 1) (by omega) v.list (fun x hx s h2 h3 => ihl x hx _ _ _ h2 h3) (s + 1) (by omega) b1 (by omega)
    unfold chkN at e1
    by_cases hl : (allS (inL chkN d) (s + 1) v.list).1 = true
    · unfold chkN at hl
      rw [if_pos hl, e1.2 hl]
      have e1' := e1.1.1 hl
      have e2 := all_chk (inF chkN d) (fun g => countV g.2) (fun g => depthV g.2) (fun g => shapeV g.2) (d + 1) (by omega) v.fields (fun x hx s h2 h3 => ihf x hx _ _ _ h2 h3) (s + 1 + sumN (v.list.map countV)) (by omega) e1'.1 (by omega)
      unfold chkN at e2
      refine ⟨⟨fun h3 => ?_, fun h3 => ?_⟩, fun h3 => ?_⟩
      · have e3 := e2.1.1 h3
        refine ⟨by omega, by omega, ?_⟩
        rw [hs, b3.1, b3.2, e1'.2.2, e3.2.2]; rfl
      · have h4 := h3.2.2
        rw [hs] at h4
        simp only [Bool.and_eq_true] at h4
        exact e2.1.2 ⟨by omega, by omega, h4.2.2.2⟩
      · rw [e2.2 h3]; omega
    · unfold chkN at hl
      rw [if_neg hl]
      refine ⟨⟨fun h3 => by simp at h3, fun h3 => ?_⟩, fun h3 => by simp at h3⟩
      have h4 := h3.2.2
      rw [hs] at h4
      simp only [Bool.and_eq_true] at h4
      exact absurd (e1.1.2 ⟨by omega, by omega, h4.2.1⟩) hl
  · rw [if_neg hb]
    refine ⟨⟨fun h3 => by simp at h3, fun h3 => ?_⟩, fun h3 => by simp at h3⟩
    have h4 := h3.2.2
    rw [hs] at h4
    simp only [Bool.and_eq_true] at h4
    exact absurd (by rw [fitsB_head, h4.1, h4.2.2.1, decide_eq_true (show s + 1 ≤ 2000 by omega), decide_eq_true (show d < 12 by omega)]; rfl) hb
theorem checkW_eq (v : V) (h : countV v < 4611686018427387904) : checkW v = checkR v := by
  have g := (walk_chk v ⟨#[]⟩ 0 0 (Int.le_refl _) (by omega)).1
  unfold checkW checkR
  rw [Bool.eq_iff_iff, g]
  simp only [Bool.and_eq_true, decide_eq_true_eq]
  constructor
  · rintro ⟨h1, h2, h3⟩; exact ⟨⟨by omega, by omega⟩, h3⟩
  · rintro ⟨⟨h1, h2⟩, h3⟩; exact ⟨by omega, by omega, h3⟩
end Go.Proofs.YtkecimhohmkkkaaDoor.tre
