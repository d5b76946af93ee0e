/- Layer 8: of the laws: awake. -/
import Derived.Test.YthflpgeonllgdaaDoorRulFew
import Derived.Test.YthflpgeonllgdaaDoorRulAlw
import Derived.Test.YthflpgeonllgdaaDoorRulChk
namespace Go.Proofs.YthflpgeonllgdaaDoor.rul
open Go.RowKit Go.Proofs.YthflpgeonllgdaaDoor.rep Go.Proofs.YthflpgeonllgdaaDoor.lab

def getT : ByteArray := ⟨#[103, 101, 116]⟩
def noT : ByteArray := ⟨#[]⟩
def podsLog : ByteArray := ⟨#[112, 111, 100, 115, 47, 108, 111, 103]⟩
def starStatus : ByteArray := ⟨#[42, 47, 115, 116, 97, 116, 117, 115]⟩
def podsT : ByteArray := ⟨#[112, 111, 100, 115]⟩
def logT : ByteArray := ⟨#[108, 111, 103]⟩
def xT : ByteArray := ⟨#[120]⟩
def statusT : ByteArray := ⟨#[115, 116, 97, 116, 117, 115]⟩
def exR : Ru := ⟨[getT], [noT], [podsLog, starStatus], [], []⟩
def ex1 : Ak := ⟨getT, noT, podsT, logT, noT, noT, noT⟩
def ex2 : Ak := ⟨getT, noT, xT, statusT, noT, noT, noT⟩
def ex3 : Ak := ⟨getT, noT, podsT, noT, noT, noT, noT⟩
theorem exC : checkB exR false = true := by decide +kernel
theorem exA1 : allowsB exR ex1 = true := by decide +kernel
theorem exA2 : allowsB exR ex2 = true := by decide +kernel
theorem exA3 : allowsB exR ex3 = false := by decide +kernel
theorem ok1 : akOk 1000 ex1 := by unfold akOk; decide
theorem ok2 : akOk 1000 ex2 := by unfold akOk; decide
theorem ok3 : akOk 1000 ex3 := by unfold akOk; decide
/-- A row of texts of one's own, as a slice. -/
theorem row_at {B : Nat} (w : World) (ws : List ByteArray) (t : TypeId) (h : ∀ x ∈ ws, x.size ≤ B) (hl : ws.length ≤ B) (hB : B ≤ 9223372036854775807) : RowAt B (text B) (w.alloc (.cells (ws.map Value.string).toArray t)) (.slice (some ⟨w.heap.size, 0, none⟩) ws.length ws.length) ws :=
  ⟨_, _, rfl, Nat.le_refl _, by omega, hl, row_new w ws t h⟩
theorem row_none {B : Nat} (w : World) : RowAt B (text B) w (.slice none 0 0) [] := ⟨_, _, rfl, Nat.le_refl _, by omega, Nat.zero_le _, .inl rfl⟩
set_option maxRecDepth 100000 in
set_option maxHeartbeats 4000000 in
theorem awake_any (w : World) (hm : nam.MaxL w) : Calls Tryd.prog 10 #[] w fun e w' => e = .returned (.bool true) ∧ Below w.heap.size w w' := by
  have cc := fun v g s n p w hu hm => Check_any 1000 (by omega) exR v g s n p false w hu hm
  have c1 := fun v g s n p w hu => Allows_any 1000 (by omega) exR v g s n p ex1 w hu ok1
  have c2 := fun v g s n p w hu => Allows_any 1000 (by omega) exR v g s n p ex2 w hu ok2
  have c3 := fun v g s n p w hu => Allows_any 1000 (by omega) exR v g s n p ex3 w hu ok3
  rw [exC] at cc
  rw [exA1] at c1
  rw [exA2] at c2
  rw [exA3] at c3
  obtain ⟨wa, hwa⟩ : ∃ wa, wa = w.alloc (.cells #[.string getT] 9) := ⟨_, rfl⟩
  obtain ⟨wb, hwb⟩ : ∃ wb, wb = wa.alloc (.cells #[.string noT] 9) := ⟨_, rfl⟩
  obtain ⟨wc, hwc⟩ : ∃ wc, wc = wb.alloc (.cells #[.string podsLog, .string starStatus] 9) := ⟨_, rfl⟩
  obtain ⟨wd, hwd⟩ : ∃ wd, wd = wc.alloc (.cells #[.slice (some ⟨w.heap.size, 0, none⟩) 1 1, .slice (some ⟨w.heap.size + 1, 0, none⟩) 1 1, .slice (some ⟨w.heap.size + 1 + 1, 0, none⟩) 2 2, .slice none 0 0, .slice none 0 0] 24) := ⟨_, rfl⟩
  have sa : wa.heap.size = w.heap.size + 1 := by rw [hwa, World.size_alloc]
  have sb : wb.heap.size = w.heap.size + 1 + 1 := by rw [hwb, World.size_alloc, sa]
  have sc : wc.heap.size = w.heap.size + 1 + 1 + 1 := by rw [hwc, World.size_alloc, sb]
  have sd : wd.heap.size = w.heap.size + 1 + 1 + 1 + 1 := by rw [hwd, World.size_alloc, sc]
  have ba : Below w.heap.size w wa := by rw [hwa]; exact below_new _ _
  have bb : Below wa.heap.size wa wb := by rw [hwb]; exact below_new _ _
  have bc : Below wb.heap.size wb wc := by rw [hwc]; exact below_new _ _
  have bd : Below wc.heap.size wc wd := by rw [hwd]; exact below_new _ _
  have r1 : RowAt 1000 (text 1000) wa (.slice (some ⟨w.heap.size, 0, none⟩) 1 1) [getT] := by
    rw [hwa]; exact row_at w [getT] 9 (by decide) (by decide) (by omega)
  have r2 : RowAt 1000 (text 1000) wb (.slice (some ⟨w.heap.size + 1, 0, none⟩) 1 1) [noT] := by
    rw [hwb, ← sa]; exact row_at wa [noT] 9 (by decide) (by decide) (by omega)
  have r3 : RowAt 1000 (text 1000) wc (.slice (some ⟨w.heap.size + 1 + 1, 0, none⟩) 2 2) [podsLog, starStatus] := by
    rw [hwc, ← sb]; exact row_at wb [podsLog, starStatus] 9 (by decide) (by decide) (by omega)
  have ru : ruAt 1000 wd (.slice (some ⟨w.heap.size, 0, none⟩) 1 1) (.slice (some ⟨w.heap.size + 1, 0, none⟩) 1 1) (.slice (some ⟨w.heap.size + 1 + 1, 0, none⟩) 2 2) (.slice none 0 0) (.slice none 0 0) exR :=
    ⟨((r1.later bb).later bc).later bd, (r2.later bc).later bd, r3.later bd, row_none _, row_none _⟩
  have bw := chain (chain (chain ba bb) bc) bd
  have K := Lib.hid (show ∀ W, Below wd.heap.size wd W → W.cell? ⟨w.heap.size + 1 + 1 + 1, 0, none⟩ = some (.slice (some ⟨w.heap.size, 0, none⟩) 1 1) ∧ W.cell? ⟨w.heap.size + 1 + 1 + 1, 1, none⟩ = some (.slice (some ⟨w.heap.size + 1, 0, none⟩) 1 1) ∧ W.cell? ⟨w.heap.size + 1 + 1 + 1, 2, none⟩ = some (.slice (some ⟨w.heap.size + 1 + 1, 0, none⟩) 2 2) ∧ W.cell? ⟨w.heap.size + 1 + 1 + 1, 3, none⟩ = some (.slice none 0 0) ∧ W.cell? ⟨w.heap.size + 1 + 1 + 1, 4, none⟩ = some (.slice none 0 0) from fun W h => by
    refine ⟨?_, ?_, ?_, ?_, ?_⟩ <;>
    · refine (h.cell (by rw [sd]; show w.heap.size + 1 + 1 + 1 < _; omega)).trans ?_
      rw [hwd, ← sc]; exact cell_new _ _ _ _)
  have Hwd := Lib.hid (show wd = (((w.alloc (.cells #[.string getT] 9)).alloc (.cells #[.string noT] 9)).alloc (.cells #[.string podsLog, .string starStatus] 9)).alloc (.cells #[.slice (some ⟨w.heap.size, 0, none⟩) 1 1, .slice (some ⟨w.heap.size + 1, 0, none⟩) 1 1, .slice (some ⟨w.heap.size + 1 + 1, 0, none⟩) 2 2, .slice none 0 0, .slice none 0 0] 24) by rw [hwd, hwc, hwb, hwa])
  clear hwd hwc hwb hwa sa sb sc sd ba bb bc bd r1 r2 r3
  go_enter Tryd.func10, Tryd.ntmps10
  go_wp2_with fail
  have Hw := Hwd.out
  unfold getT noT podsLog starStatus at Hw
  rw [← Hw]
  clear Hw
  refine (cc _ _ _ _ _ _ ru (hm.later bw)).mono ?_
  rintro e w1 ⟨rfl, hb1⟩
  obtain ⟨k0, k1, k2, k3, k4⟩ := K.out _ hb1
  go_wp2_with fail
  refine (c1 _ _ _ _ _ _ (ru.later hb1)).mono ?_
  rintro e w2 ⟨rfl, hb2⟩
  have h2 := chain hb1 hb2
  clear k0 k1 k2 k3 k4
  obtain ⟨k0, k1, k2, k3, k4⟩ := K.out _ h2
  go_wp2_with fail
  refine (c2 _ _ _ _ _ _ (ru.later h2)).mono ?_
  rintro e w3 ⟨rfl, hb3⟩
  have h3 := chain h2 hb3
  clear k0 k1 k2 k3 k4
  obtain ⟨k0, k1, k2, k3, k4⟩ := K.out _ h3
  go_wp2_with fail
  refine (c3 _ _ _ _ _ _ (ru.later h3)).mono ?_
  rintro e w4 ⟨rfl, hb4⟩
  go_wp2
  go_ret
  exact ⟨rfl, chain bw (chain h3 hb4)⟩
end Go.Proofs.YthflpgeonllgdaaDoor.rul
