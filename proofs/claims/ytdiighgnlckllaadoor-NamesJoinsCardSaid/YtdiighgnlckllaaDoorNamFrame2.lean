/- Layer 3: a slice of numbers that came in, as a row that a walk reads. -/
import Derived.Test.YtdiighgnlckllaaDoorNamFrame
import Derived.Test.YtdiighgnlckllaaDoorNamJoins
import Derived.ChangeOld
namespace Go.Proofs.YtdiighgnlckllaaDoor.nam
open Go.ChangeShapes Go.WideShapes Go.ChangeAt Go.RowKit


theorem rowAt_of {H : Type} {enc : TypeId × Value → H} {W : World} {d : DataW H} {p : List MemPlace} {a : Option Addr} {len cap : Nat}
    (h : DataW.Trod enc Tryd.prog W 0 (fun _ => true) true 28 (.slice a len cap) d p) : ∃ zs, zs.length = len ∧ len ≤ 9223372036854775807 ∧ RowAt W a zs := by
  obtain ⟨fuel, hf⟩ := h
  rcases open_ints Tryd.underlying28 Tryd.underlying3 (by kernel_rfl) hf with ⟨hcs, _⟩ | ⟨x, l, c, zs, hcs, _, hl, hm, hz, _, hcell, hwz⟩
  · simp [Value.cells] at hcs
    obtain ⟨rfl, rfl, rfl⟩ := hcs
    exact ⟨[], rfl, by omega, fun hn => by simp at hn⟩
  · simp [Value.cells] at hcs
    obtain ⟨rfl, rfl, rfl⟩ := hcs
    have hz' : zs.length = cap := by simpa using hz
    unfold maxLen at hm
    refine ⟨zs.take len, by rw [List.length_take]; omega, by omega, fun hn => ?_⟩
    have hlen : 0 < len := by rw [List.length_take] at hn; omega
    obtain ⟨b, off, spot⟩ := x
    have hc := hcell 0 (by omega)
    have hspot : spot = none := by simpa [Addr.add] using World.cell?_spot hc
    subst hspot
    have hc0 : W.cell? ⟨b, off, none⟩ = some (.int .i64 (zs.getD 0 0)) := by simpa [Addr.add] using hc
    have hlt : b < W.heap.size := by
      simp only [World.cell?] at hc0
      rcases Nat.lt_or_ge b W.heap.size with g | g
      · exact g
      · rw [Array.getElem?_eq_none g] at hc0; cases hc0
    refine ⟨b, off, rfl, hlt, fun j y hy => ?_⟩
    rw [List.getElem?_take] at hy
    have hj : j < len := by
      rcases Nat.lt_or_ge j len with g | g
      · exact g
      · rw [if_neg (by omega)] at hy; cases hy
    rw [if_pos hj] at hy
    have := hcell j (by omega)
    have e : (⟨b, off, none⟩ : Addr).add j = ⟨b, off + j, none⟩ := by unfold Addr.add; split <;> simp_all
    rw [e] at this
    rw [this, List.getD_eq_getElem?_getD, hy]
    rfl
end Go.Proofs.YtdiighgnlckllaaDoor.nam
