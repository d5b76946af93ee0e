/- Layer 7: of the laws: awake. -/
import Derived.Test.YtodobacgbbpmfaaDoorLabFew
namespace Go.Proofs.YtodobacgbbpmfaaDoor.lab
open Go.RowKit Go.Proofs.YtodobacgbbpmfaaDoor.rep

def sA : ByteArray := ⟨#[97]⟩
def sB : ByteArray := ⟨#[98]⟩
def s1 : ByteArray := ⟨#[49]⟩
def s2 : ByteArray := ⟨#[50]⟩
def exS : Sel := ⟨[⟨sA, s1⟩], [⟨sB, notS, [s2]⟩]⟩
def exL : List Pr := [⟨sA, s1⟩]
def exM : List Pr := [⟨sA, s1⟩, ⟨sB, s2⟩]
theorem ex1 : checkB exS = true := by decide +kernel
theorem ex2 : selB exS exL = true := by decide +kernel
theorem ex3 : selB exS exM = false := by decide +kernel
theorem pr_at {B : Nat} {W : World} {x : Pr} (h1 : x.key.size ≤ B) (h2 : x.value.size ≤ B) : (prR B).at_ W [.string x.key, .string x.value] x := ⟨rfl, h1, h2⟩
theorem tx_at {B : Nat} {W : World} {x : ByteArray} (h1 : x.size ≤ B) : (text B).at_ W [.string x] x := ⟨rfl, h1⟩
set_option maxRecDepth 100000 in
set_option maxHeartbeats 4000000 in
theorem awake_any (w : World) (hm : nam.MaxL w) : Calls Tryd.prog 9 #[] w fun e w' => e = .returned (.bool true) ∧ Below w.heap.size w w' := by
  have cc := fun u t w hu ht hm => Check_any 1000 (by omega) exS u t w hu ht hm
  have c1 : ∀ u t a w, RowAt 1000 (prR 1000) w u exS.labels → RowAt 1000 (wtR 1000) w t exS.wants → RowIn (prR 1000) w a exL → Calls Tryd.prog 20 #[.agg #[u, t], .slice a 1 1] w fun e w' => e = .returned (.bool (selB exS exL)) ∧ Below w.heap.size w w' :=
    fun u t a w hu ht hr => Selects_any 1000 (by omega) exS u t a 1 exL (by decide) w hu ht hr
  have c2 : ∀ u t a w, RowAt 1000 (prR 1000) w u exS.labels → RowAt 1000 (wtR 1000) w t exS.wants → RowIn (prR 1000) w a exM → Calls Tryd.prog 20 #[.agg #[u, t], .slice a 2 2] w fun e w' => e = .returned (.bool (selB exS exM)) ∧ Below w.heap.size w w' :=
    fun u t a w hu ht hr => Selects_any 1000 (by omega) exS u t a 2 exM (by decide) w hu ht hr
  rw [ex1] at cc
  rw [ex2] at c1
  rw [ex3] at c2
  obtain ⟨wa, hwa⟩ : ∃ wa, wa = w.alloc (.cells #[.string sA, .string s1] 43) := ⟨_, rfl⟩
  obtain ⟨wb, hwb⟩ : ∃ wb, wb = wa.alloc (.cells #[.string s2] 9) := ⟨_, rfl⟩
  obtain ⟨wc, hwc⟩ : ∃ wc, wc = wb.alloc (.cells #[.string sB, .string notS, .slice (some ⟨w.heap.size + 1, 0, none⟩) 1 1] 37) := ⟨_, rfl⟩
  obtain ⟨wd, hwd⟩ : ∃ wd, wd = wc.alloc (.cells #[.slice (some ⟨w.heap.size, 0, none⟩) 1 1, .slice (some ⟨w.heap.size + 1 + 1, 0, none⟩) 1 1] 25) := ⟨_, rfl⟩
  have sa : wa.heap.size = w.heap.size + 1 := by rw [hwa, World.size_alloc]
  have sb : wb.heap.size = w.heap.size + 1 + 1 := by rw [hwb, World.size_alloc, sa]
  have sc : wc.heap.size = w.heap.size + 1 + 1 + 1 := by rw [hwc, World.size_alloc, sb]
  have ba : Below w.heap.size w wa := by rw [hwa]; exact below_new _ _
  have bb : Below wa.heap.size wa wb := by rw [hwb]; exact below_new _ _
  have bc : Below wb.heap.size wb wc := by rw [hwc]; exact below_new _ _
  have bd : Below wc.heap.size wc wd := by rw [hwd]; exact below_new _ _
  have ru : RowAt 1000 (prR 1000) wd (.slice (some ⟨w.heap.size, 0, none⟩) 1 1) exS.labels := by
    have : RowAt 1000 (prR 1000) wa (.slice (some ⟨w.heap.size, 0, none⟩) 1 1) exS.labels := by
      rw [hwa]
      exact RowAt.new w rfl _ _ rfl (by decide) (by decide) (Lists.one (pr_at (x := ⟨sA, s1⟩) (by decide) (by decide))) rfl
    exact ((this.later bb).later bc).later bd
  have rv : RowAt 1000 (text 1000) wb (.slice (some ⟨w.heap.size + 1, 0, none⟩) 1 1) [s2] := by
    rw [hwb]
    exact RowAt.new wa sa.symm _ _ rfl (by decide) (by decide) (Lists.one (tx_at (by decide))) rfl
  have rt : RowAt 1000 (wtR 1000) wd (.slice (some ⟨w.heap.size + 1 + 1, 0, none⟩) 1 1) exS.wants := by
    have : RowAt 1000 (wtR 1000) wc (.slice (some ⟨w.heap.size + 1 + 1, 0, none⟩) 1 1) exS.wants := by
      have hv : RowAt 1000 (text 1000) wc (.slice (some ⟨w.heap.size + 1, 0, none⟩) 1 1) [s2] := rv.later bc
      have hL : Lists (wtR 1000) wc [[.string sB, .string notS, .slice (some ⟨w.heap.size + 1, 0, none⟩) 1 1]] exS.wants := Lists.one ⟨_, rfl, by decide, by decide, hv⟩
      rw [hwc] at hL ⊢
      exact RowAt.new wb sb.symm _ _ rfl (by decide) (by decide) hL rfl
    exact this.later bd
  have bw := chain (chain (chain ba bb) bc) bd
  have sd : wd.heap.size = w.heap.size + 1 + 1 + 1 + 1 := by rw [hwd, World.size_alloc, sc]
  have k0 : wd.cell? ⟨w.heap.size + 1 + 1 + 1, 0, none⟩ = some (.slice (some ⟨w.heap.size, 0, none⟩) 1 1) := by
    rw [hwd, ← sc]; exact cell_new _ _ _ _
  have k1 : wd.cell? ⟨w.heap.size + 1 + 1 + 1, 1, none⟩ = some (.slice (some ⟨w.heap.size + 1 + 1, 0, none⟩) 1 1) := by
    rw [hwd, ← sc]; exact cell_new _ _ _ _
  have Hwd := Lib.hid (show wd = ((((w.alloc (.cells #[.string sA, .string s1] 43)).alloc (.cells #[.string s2] 9)).alloc (.cells #[.string sB, .string notS, .slice (some ⟨w.heap.size + 1, 0, none⟩) 1 1] 37)).alloc (.cells #[.slice (some ⟨w.heap.size, 0, none⟩) 1 1, .slice (some ⟨w.heap.size + 1 + 1, 0, none⟩) 1 1] 25)) by rw [hwd, hwc, hwb, hwa])
  have Sd := Lib.hid sd
  clear hwd hwc hwb hwa sa sb sc sd ba bb bc bd rv
  go_enter Tryd.func9, Tryd.ntmps9
  go_wp2_with fail
  have Hw := Hwd.out
  unfold sA s1 s2 sB notS at Hw
  rw [← Hw]
  clear Hw
  refine (cc _ _ _ ru rt (hm.later bw)).mono ?_
  rintro e w1 ⟨rfl, hb1⟩
  have l1 : w.heap.size + 1 + 1 + 1 < w1.heap.size := by have := hb1.size; have := Sd.out; omega
  have k2 := (hb1.cell (p := ⟨w.heap.size + 1 + 1 + 1, 0, none⟩) (by rw [Sd.out]; show w.heap.size + 1 + 1 + 1 < _; omega)).trans k0
  have k3 := (hb1.cell (p := ⟨w.heap.size + 1 + 1 + 1, 1, none⟩) (by rw [Sd.out]; show w.heap.size + 1 + 1 + 1 < _; omega)).trans k1
  have bw1 := chain bw hb1
  clear k0 k1
  go_wp2_with fail
  have hl : RowAt 1000 (prR 1000) (w1.alloc (.cells #[.string sA, .string s1] 43)) (.slice (some ⟨w1.heap.size, 0, none⟩) 1 1) exL :=
    RowAt.new w1 rfl _ _ rfl (by decide) (by decide) (Lists.one (pr_at (x := ⟨sA, s1⟩) (by decide) (by decide))) rfl
  have hb2 := chain hb1 (below_new w1 (.cells #[.string sA, .string s1] 43))
  refine (c1 _ _ _ _ (ru.later hb2) (rt.later hb2) hl.inn).mono ?_
  rintro e w2 ⟨rfl, hb3⟩
  have hb4 := chain hb2 hb3
  have l2 : w.heap.size + 1 + 1 + 1 < w2.heap.size := by have := hb4.size; have := Sd.out; omega
  have bw2 := chain bw hb4
  have k4 := (hb3.cell (p := ⟨w.heap.size + 1 + 1 + 1, 0, none⟩) (by rw [World.size_alloc]; show w.heap.size + 1 + 1 + 1 < _; omega)).trans ((World.cell?_alloc_lt _ _ _ (by exact l1)).trans k2)
  have k5 := (hb3.cell (p := ⟨w.heap.size + 1 + 1 + 1, 1, none⟩) (by rw [World.size_alloc]; show w.heap.size + 1 + 1 + 1 < _; omega)).trans ((World.cell?_alloc_lt _ _ _ (by exact l1)).trans k3)
  clear k2 k3 hl
  go_wp2_with fail
  have hl : RowAt 1000 (prR 1000) (w2.alloc (.cells #[.string sA, .string s1, .string sB, .string s2] 43)) (.slice (some ⟨w2.heap.size, 0, none⟩) 2 2) exM :=
    RowAt.new w2 rfl _ _ rfl (by decide) (by decide) ((Lists.one (pr_at (x := ⟨sA, s1⟩) (by decide) (by decide))).append (Lists.one (pr_at (x := ⟨sB, s2⟩) (by decide) (by decide)))) rfl
  have hb5 := chain hb4 (below_new w2 (.cells #[.string sA, .string s1, .string sB, .string s2] 43))
  refine (c2 _ _ _ _ (ru.later hb5) (rt.later hb5) hl.inn).mono ?_
  rintro e w3 ⟨rfl, hb6⟩
  go_wp2
  go_ret
  exact ⟨rfl, chain bw (chain hb5 hb6)⟩
end Go.Proofs.YtodobacgbbpmfaaDoor.lab
