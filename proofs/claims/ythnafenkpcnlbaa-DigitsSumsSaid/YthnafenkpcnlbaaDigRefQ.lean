/- Layer 2: the document's own Div and Mod. -/
import Derived.Test.YthnafenkpcnlbaaDigRef
namespace Go.Proofs.Ythnafenkpcnlbaa.dig
open Go.RowKit

set_option maxHeartbeats 800000 in
theorem RefDiv_any (a b : Int) (ha : inI a) (hb : inI b) (w : World) :
    Calls Try.prog 22 #[.int .i64 a, .int .i64 b] w fun e w' => e = .returned (.tuple #[.int .i64 (dV a b), .int .i64 (dE a b)]) ∧ Below w.heap.size w w' := by
  by_cases h0 : b = 0
  · subst h0
    have H1 := Lib.hid (dV_zero a)
    have H2 := Lib.hid (dE_zero a)
    go_enter Try.func22, Try.ntmps22
    go_wp2
    go_ret2
    exact ⟨ret2 H1.out.symm H2.out.symm, Below.refl _ _⟩
  · have hs := tdiv_sgn a b
    have h1 : dV a b = tV (a.tdiv b) := if_neg h0
    have h2 : dE a b = tE (a.tdiv b) := if_neg h0
    rw [hs] at h1 h2
    have hb0 : (b == 0) = false := by simpa using h0
    have ga := amt_bd ha
    have gb := amt_bd hb
    have gb1 := amt_bd1 hb h0
    clear hs
    generalize hm : decide (a < 0) = m at h1 h2
    generalize hk : decide (b < 0) = k at h1 h2
    generalize hx : amt a = x at h1 h2 ga
    generalize hy : amt b = y at h1 h2 gb gb1
    have H1 := Lib.hid h1
    have H2 := Lib.hid h2
    have Hm := Lib.hid hm
    have Hk := Lib.hid hk
    have Hx := Lib.hid hx
    have Hy := Lib.hid hy
    clear h1 h2 hm hk hx hy h0
    have hq := quo_bd ga gb1
    have hdiv : IntKind.u64.wrap (x.tdiv y) = x / y := IntWalk.u64_quo x y (by omega)
    have gz : ¬ y = 0 := by omega
    go_enter Try.func22, Try.ntmps22
    go_wp2_with fail
    refine (Of_as a ha m x Hm Hx _).mono ?_
    rintro e w1 ⟨rfl, rfl⟩
    go_wp2_with fail
    refine (Of_as b hb k y Hk Hy _).mono ?_
    rintro e w2 ⟨rfl, rfl⟩
    go_wp2_with fail
    have hk4 := new4 w
    go_region_held3 (fun w' => w'.cell? ⟨w.heap.size + 1, 0, none⟩ = some (.bool m) ∧ w'.cell? ⟨w.heap.size + 1, 2, none⟩ = some (.int .u64 x) ∧ w'.cell? ⟨w.heap.size + 1 + 1 + 1, 0, none⟩ = some (.bool k) ∧ w'.cell? ⟨w.heap.size + 1 + 1 + 1, 2, none⟩ = some (.int .u64 y))
      (first | go_keep)
      (first
        | (go_at_call 29; refine (Told_any _ _ hq _).mono ?_; rintro e w4 ⟨rfl, hb4⟩; obtain ⟨hc4, hf4⟩ := bcell hb4))
    go_wp2
    go_ret2
    refine ⟨ret2 (by rw [H1.out]; rfl) (by rw [H2.out]; rfl), ?_⟩
    exact (below4 _ _ _ _ _).trans ((below_undrew hb4).mono (by simp; omega))
set_option maxHeartbeats 800000 in
theorem RefMod_any (a b : Int) (ha : inI a) (hb : inI b) (w : World) :
    Calls Try.prog 24 #[.int .i64 a, .int .i64 b] w fun e w' => e = .returned (.tuple #[.int .i64 (mV a b), .int .i64 (mE a b)]) ∧ Below w.heap.size w w' := by
  by_cases h0 : b = 0
  · subst h0
    have H1 := Lib.hid (mV_zero a)
    have H2 := Lib.hid (mE_zero a)
    go_enter Try.func24, Try.ntmps24
    go_wp2
    go_ret2
    exact ⟨ret2 H1.out.symm H2.out.symm, Below.refl _ _⟩
  · have hs := tmod_sgn a b
    have h1 : mV a b = tV (a.tmod b) := (if_neg h0).trans (tV_in (tmod_in (a := a) hb h0)).symm
    have h2 : mE a b = tE (a.tmod b) := (if_neg h0).trans (tE_in (tmod_in (a := a) hb h0)).symm
    rw [hs] at h1 h2
    have hb0 : (b == 0) = false := by simpa using h0
    have ga := amt_bd ha
    have gb := amt_bd hb
    have gb1 := amt_bd1 hb h0
    clear hs
    generalize hm : decide (a < 0) = m at h1 h2
    generalize hk : decide (b < 0) = k at h1 h2
    generalize hx : amt a = x at h1 h2 ga
    generalize hy : amt b = y at h1 h2 gb gb1
    have H1 := Lib.hid h1
    have H2 := Lib.hid h2
    have Hm := Lib.hid hm
    have Hk := Lib.hid hk
    have Hx := Lib.hid hx
    have Hy := Lib.hid hy
    clear h1 h2 hm hk hx hy h0
    have hq := rem_bd ga gb1
    have hdiv : x.tmod y = x % y := IntWalk.rem_in x y ga.1
    have gz : ¬ y = 0 := by omega
    go_enter Try.func24, Try.ntmps24
    go_wp2_with fail
    refine (Of_as a ha m x Hm Hx _).mono ?_
    rintro e w1 ⟨rfl, rfl⟩
    go_wp2_with fail
    refine (Of_as b hb k y Hk Hy _).mono ?_
    rintro e w2 ⟨rfl, rfl⟩
    go_wp2_with fail
    have hk4 := new4 w
    go_region_held3 (fun w' => w'.cell? ⟨w.heap.size + 1, 0, none⟩ = some (.bool m) ∧ w'.cell? ⟨w.heap.size + 1, 2, none⟩ = some (.int .u64 x) ∧ w'.cell? ⟨w.heap.size + 1 + 1 + 1, 2, none⟩ = some (.int .u64 y))
      (first | go_keep)
      (first
        | (go_at_call 29; refine (Told_any _ _ hq _).mono ?_; rintro e w4 ⟨rfl, hb4⟩; obtain ⟨hc4, hf4⟩ := bcell hb4))
    go_wp2
    go_ret2
    refine ⟨ret2 (by rw [H1.out]) (by rw [H2.out]), ?_⟩
    exact (below4 _ _ _ _ _).trans ((below_undrew hb4).mono (by simp; omega))
end Go.Proofs.Ythnafenkpcnlbaa.dig
