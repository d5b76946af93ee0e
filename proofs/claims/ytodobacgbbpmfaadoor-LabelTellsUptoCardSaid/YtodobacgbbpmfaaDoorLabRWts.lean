/- Layer 7: of the document: Wants. -/
import Derived.Test.YtodobacgbbpmfaaDoorLabRHas
namespace Go.Proofs.YtodobacgbbpmfaaDoor.lab
open Go.RowKit Go.Proofs.YtodobacgbbpmfaaDoor.rep

set_option maxHeartbeats 2000000 in
theorem rWants_any (B : Nat) (x : Wt) (u : Value) (a : Option Addr) (c : Nat) (l : List Pr) (hl : l.length ≤ 140737488355328) (w : World) (hu : RowAt B (text B) w u x.vals) (hvl : x.vals.length ≤ 140737488355328) (hr : RowIn (prR B) w a l) :
    Calls Tryd.prog 15 #[.agg #[.string x.key, .string x.how, u], .slice a l.length c] w fun e w' => e = .returned (.bool (wantsB x l)) ∧ Below w.heap.size w w' := by
  obtain ⟨ua, uc, rfl, _, hc, _, hru⟩ := hu
  have hb1 := below_new w (.cells #[.string x.key, .string x.how, .slice ua x.vals.length uc] 37)
  have ch := fun w hr => rHas_any B a c l hl x.key w hr
  unfold FoundTo at ch
  have H0 : Hid (wantsB x l = pickB x (hasV l x.key) (hasB l x.key)) := rfl
  generalize hasV l x.key = v at *
  generalize hasB l x.key = is at *
  have ca := fun w hr => rAmong_any B ua uc x.vals hvl v w hr
  by_cases h1 : x.how = inS
  · have H := Lib.hid (show wantsB x l = (amongB x.vals v is) by rw [H0.out]; unfold pickB; rw [if_pos h1])
    have t1 := how_yes how_lists.1 h1
    clear H0 h1
    unfold amongB at H
    generalize among x.vals v = z at *
    cases is with
    | false =>
      simp only [Bool.false_and] at H
      go_enter Tryd.func15, Tryd.ntmps15
      go_wp2_with fail
      refine (ch _ (hr.later hb1)).mono ?_
      rintro e w1 ⟨rfl, hb2⟩
      have d1 : w1.cell? ⟨w.heap.size, 1, none⟩ = some (.string x.how) := (hb2.cell (p := ⟨w.heap.size, 1, none⟩) (by show w.heap.size < _; simp)).trans (cell_new _ _ _ _)
      have d2 : w1.cell? ⟨w.heap.size, 2, none⟩ = some (.slice ua x.vals.length uc) := (hb2.cell (p := ⟨w.heap.size, 2, none⟩) (by show w.heap.size < _; simp)).trans (cell_new _ _ _ _)
      have hl1 : w.heap.size < w1.heap.size := by have := hb2.size; simp at this; omega
      go_wp2_with fail
      refine (ca _ (hru.later (chain (chain hb1 hb2) (below_new _ _)))).mono ?_
      rintro e w2 ⟨rfl, rfl⟩
      go_wp2
      go_ret
      exact ⟨ret_bool H.out.symm, chain (chain hb1 hb2) (below_new _ _)⟩
    | true =>
      simp only [Bool.true_and] at H
      go_enter Tryd.func15, Tryd.ntmps15
      go_wp2_with fail
      refine (ch _ (hr.later hb1)).mono ?_
      rintro e w1 ⟨rfl, hb2⟩
      have d1 : w1.cell? ⟨w.heap.size, 1, none⟩ = some (.string x.how) := (hb2.cell (p := ⟨w.heap.size, 1, none⟩) (by show w.heap.size < _; simp)).trans (cell_new _ _ _ _)
      have d2 : w1.cell? ⟨w.heap.size, 2, none⟩ = some (.slice ua x.vals.length uc) := (hb2.cell (p := ⟨w.heap.size, 2, none⟩) (by show w.heap.size < _; simp)).trans (cell_new _ _ _ _)
      have hl1 : w.heap.size < w1.heap.size := by have := hb2.size; simp at this; omega
      go_wp2_with fail
      refine (ca _ (hru.later (chain (chain hb1 hb2) (below_new _ _)))).mono ?_
      rintro e w2 ⟨rfl, rfl⟩
      go_wp2
      go_ret
      exact ⟨ret_bool H.out.symm, chain (chain hb1 hb2) (below_new _ _)⟩
  · by_cases h2 : x.how = notS
    · have H := Lib.hid (show wantsB x l = (!(amongB x.vals v is)) by rw [H0.out]; unfold pickB; rw [if_neg h1, if_pos h2])
      have t1 := how_no how_lists.1 h1
      have t2 := how_yes how_lists.2.1 h2
      clear H0 h1 h2
      unfold amongB at H
      generalize among x.vals v = z at *
      cases is with
      | false =>
        simp only [Bool.false_and, Bool.not_false] at H
        go_enter Tryd.func15, Tryd.ntmps15
        go_wp2_with fail
        refine (ch _ (hr.later hb1)).mono ?_
        rintro e w1 ⟨rfl, hb2⟩
        have d1 : w1.cell? ⟨w.heap.size, 1, none⟩ = some (.string x.how) := (hb2.cell (p := ⟨w.heap.size, 1, none⟩) (by show w.heap.size < _; simp)).trans (cell_new _ _ _ _)
        have d2 : w1.cell? ⟨w.heap.size, 2, none⟩ = some (.slice ua x.vals.length uc) := (hb2.cell (p := ⟨w.heap.size, 2, none⟩) (by show w.heap.size < _; simp)).trans (cell_new _ _ _ _)
        have hl1 : w.heap.size < w1.heap.size := by have := hb2.size; simp at this; omega
        go_wp2_with fail
        refine (ca _ (hru.later (chain (chain hb1 hb2) (below_new _ _)))).mono ?_
        rintro e w2 ⟨rfl, rfl⟩
        go_wp2
        go_ret
        exact ⟨ret_bool H.out.symm, chain (chain hb1 hb2) (below_new _ _)⟩
      | true =>
        simp only [Bool.true_and] at H
        go_enter Tryd.func15, Tryd.ntmps15
        go_wp2_with fail
        refine (ch _ (hr.later hb1)).mono ?_
        rintro e w1 ⟨rfl, hb2⟩
        have d1 : w1.cell? ⟨w.heap.size, 1, none⟩ = some (.string x.how) := (hb2.cell (p := ⟨w.heap.size, 1, none⟩) (by show w.heap.size < _; simp)).trans (cell_new _ _ _ _)
        have d2 : w1.cell? ⟨w.heap.size, 2, none⟩ = some (.slice ua x.vals.length uc) := (hb2.cell (p := ⟨w.heap.size, 2, none⟩) (by show w.heap.size < _; simp)).trans (cell_new _ _ _ _)
        have hl1 : w.heap.size < w1.heap.size := by have := hb2.size; simp at this; omega
        go_wp2_with fail
        refine (ca _ (hru.later (chain (chain hb1 hb2) (below_new _ _)))).mono ?_
        rintro e w2 ⟨rfl, rfl⟩
        go_wp2
        go_ret
        exact ⟨ret_bool H.out.symm, chain (chain hb1 hb2) (below_new _ _)⟩
    · by_cases h3 : x.how = thereS
      · have H := Lib.hid (show wantsB x l = (is) by rw [H0.out]; unfold pickB; rw [if_neg h1, if_neg h2, if_pos h3])
        have t1 := how_no how_lists.1 h1
        have t2 := how_no how_lists.2.1 h2
        have t3 := how_yes how_lists.2.2.1 h3
        clear H0 h1 h2 h3
        generalize among x.vals v = z at *
        go_enter Tryd.func15, Tryd.ntmps15
        go_wp2_with fail
        refine (ch _ (hr.later hb1)).mono ?_
        rintro e w1 ⟨rfl, hb2⟩
        have d1 : w1.cell? ⟨w.heap.size, 1, none⟩ = some (.string x.how) := (hb2.cell (p := ⟨w.heap.size, 1, none⟩) (by show w.heap.size < _; simp)).trans (cell_new _ _ _ _)
        have d2 : w1.cell? ⟨w.heap.size, 2, none⟩ = some (.slice ua x.vals.length uc) := (hb2.cell (p := ⟨w.heap.size, 2, none⟩) (by show w.heap.size < _; simp)).trans (cell_new _ _ _ _)
        have hl1 : w.heap.size < w1.heap.size := by have := hb2.size; simp at this; omega
        go_wp2_with fail
        refine (ca _ (hru.later (chain (chain hb1 hb2) (below_new _ _)))).mono ?_
        rintro e w2 ⟨rfl, rfl⟩
        go_wp2
        go_ret
        exact ⟨ret_bool H.out.symm, chain (chain hb1 hb2) (below_new _ _)⟩
      · by_cases h4 : x.how = goneS
        · have H := Lib.hid (show wantsB x l = (!is) by rw [H0.out]; unfold pickB; rw [if_neg h1, if_neg h2, if_neg h3, if_pos h4])
          have t1 := how_no how_lists.1 h1
          have t2 := how_no how_lists.2.1 h2
          have t3 := how_no how_lists.2.2.1 h3
          have t4 := how_yes how_lists.2.2.2 h4
          clear H0 h1 h2 h3 h4
          generalize among x.vals v = z at *
          go_enter Tryd.func15, Tryd.ntmps15
          go_wp2_with fail
          refine (ch _ (hr.later hb1)).mono ?_
          rintro e w1 ⟨rfl, hb2⟩
          have d1 : w1.cell? ⟨w.heap.size, 1, none⟩ = some (.string x.how) := (hb2.cell (p := ⟨w.heap.size, 1, none⟩) (by show w.heap.size < _; simp)).trans (cell_new _ _ _ _)
          have d2 : w1.cell? ⟨w.heap.size, 2, none⟩ = some (.slice ua x.vals.length uc) := (hb2.cell (p := ⟨w.heap.size, 2, none⟩) (by show w.heap.size < _; simp)).trans (cell_new _ _ _ _)
          have hl1 : w.heap.size < w1.heap.size := by have := hb2.size; simp at this; omega
          go_wp2_with fail
          refine (ca _ (hru.later (chain (chain hb1 hb2) (below_new _ _)))).mono ?_
          rintro e w2 ⟨rfl, rfl⟩
          go_wp2
          go_ret
          exact ⟨ret_bool H.out.symm, chain (chain hb1 hb2) (below_new _ _)⟩
        · have H := Lib.hid (show wantsB x l = (false) by rw [H0.out]; unfold pickB; rw [if_neg h1, if_neg h2, if_neg h3, if_neg h4])
          have t1 := how_no how_lists.1 h1
          have t2 := how_no how_lists.2.1 h2
          have t3 := how_no how_lists.2.2.1 h3
          have t4 := how_no how_lists.2.2.2 h4
          clear H0 h1 h2 h3 h4
          generalize among x.vals v = z at *
          go_enter Tryd.func15, Tryd.ntmps15
          go_wp2_with fail
          refine (ch _ (hr.later hb1)).mono ?_
          rintro e w1 ⟨rfl, hb2⟩
          have d1 : w1.cell? ⟨w.heap.size, 1, none⟩ = some (.string x.how) := (hb2.cell (p := ⟨w.heap.size, 1, none⟩) (by show w.heap.size < _; simp)).trans (cell_new _ _ _ _)
          have d2 : w1.cell? ⟨w.heap.size, 2, none⟩ = some (.slice ua x.vals.length uc) := (hb2.cell (p := ⟨w.heap.size, 2, none⟩) (by show w.heap.size < _; simp)).trans (cell_new _ _ _ _)
          have hl1 : w.heap.size < w1.heap.size := by have := hb2.size; simp at this; omega
          go_wp2_with fail
          refine (ca _ (hru.later (chain (chain hb1 hb2) (below_new _ _)))).mono ?_
          rintro e w2 ⟨rfl, rfl⟩
          go_wp2
          go_ret
          exact ⟨ret_bool H.out.symm, chain (chain hb1 hb2) (below_new _ _)⟩
end Go.Proofs.YtodobacgbbpmfaaDoor.lab
