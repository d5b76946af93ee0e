/- Layer 7: label.Check and label.Empty. -/
import Derived.Test.YtodobacgbbpmfaaDoorLabMay
namespace Go.Proofs.YtodobacgbbpmfaaDoor.lab
open Go.RowKit Go.Proofs.YtodobacgbbpmfaaDoor.rep

theorem mixed : Tryd.prog.follows .mixedOrders = true := by kernel_rfl
theorem may_ask (B : Nat) (hB : B ≤ 140737488355328) (w : World) (hm : nam.MaxL w) : AskR (WtV B) 30 #[] wantB w :=
  ⟨enters_of Tryd.func30 (by kernel_rfl) rfl, fun W v x hx hb => by
    obtain ⟨u, rfl, h1, _, hu⟩ := hx
    exact mayWant_any B hB x u h1 W hu (hm.later hb)⟩
set_option maxHeartbeats 2000000 in
theorem Check_any (B : Nat) (hB : B ≤ 140737488355328) (s : Sel) (u t : Value) (w : World) (hu : RowAt B (prR B) w u s.labels) (ht : RowAt B (wtR B) w t s.wants) (hm : nam.MaxL w) :
    Calls Tryd.prog 16 #[.agg #[u, t]] w fun e w' => e = .returned (.bool (checkB s)) ∧ Below w.heap.size w w' := by
  obtain ⟨au, cu, rfl, _, hcu, hlu, hru⟩ := hu
  obtain ⟨at_, ct, rfl, _, hct, hlt, hrt⟩ := ht
  have hb1 := below_new w (.cells #[.slice au s.labels.length cu, .slice at_ s.wants.length ct] 25)
  have cl := fun w hr hm => Labels_any B hB au cu s.labels (by omega) w hr hm
  have c0 : (w.alloc (.cells #[.slice au s.labels.length cu, .slice at_ s.wants.length ct] 25)).cell? ⟨w.heap.size, 0, none⟩ = some (.slice au s.labels.length cu) := cell_new _ _ _ _
  have c1 : (w.alloc (.cells #[.slice au s.labels.length cu, .slice at_ s.wants.length ct] 25)).cell? ⟨w.heap.size, 1, none⟩ = some (.slice at_ s.wants.length ct) := cell_new _ _ _ _
  cases hl : labelsB s.labels with
  | false =>
    have H := Lib.hid (show checkB s = false by unfold checkB; rw [hl]; rfl)
    rw [hl] at cl
    clear hl
    have mixed := mixed
    go_enter Tryd.func16, Tryd.ntmps16
    go_wp2
    have k0 := cell_below (by simp) c0
    have hlw := (cell_lt c0)
    clear c0 c1
    generalize w.alloc (.cells #[.slice au s.labels.length cu, .slice at_ s.wants.length ct] 25) = w1 at *
    refine wp_region_quiet_below (by assumption) (by kernel_rfl) ?_
    repeat (quiet_step (first
      | (go_at_call 18; exact calls_below (cl _ (hru.later (chain hb1 (below_of_grown _ _))) (hm.later (chain hb1 (below_of_grown _ _)))))))
    refine wpQuiet_nil ?_
    intro _ hw'
    obtain ⟨⟨nq, osq⟩, hw''⟩ := hw'
    subst hw''
    go_wp2_with fail
    go_ret
    exact ⟨ret_bool H.out.symm, chain hb1 (below_of_grown nq osq)⟩
  | true =>
    have H := Lib.hid (show checkB s = s.wants.all wantB by unfold checkB; rw [hl]; rfl)
    rw [hl] at cl
    clear hl
    have cn := fun k cap w hr hp => conW_any B at_ ct s.wants (by omega) k cap (fun x => !(wantB x)) w hr hp
    rw [any_not] at cn
    generalize s.wants.all wantB = z at *
    go_enter Tryd.func16, Tryd.ntmps16
    go_wp2
    go_region_held3 (fun w' => w'.cell? ⟨w.heap.size, 0, none⟩ = some (.slice au s.labels.length cu) ∧ w'.cell? ⟨w.heap.size, 1, none⟩ = some (.slice at_ s.wants.length ct))
      (first | go_keep)
      (first
        | (go_at_call 18; refine (cl _ (hru.later hb1.drew) (hm.later hb1.drew)).mono ?_; rintro e w2 ⟨rfl, hb2⟩; have hb3 := chain hb1.drew hb2; have d0 := (hb2.cell (p := ⟨w.heap.size, 0, none⟩) (by show w.heap.size < _; simp)).trans c0; have d1 := (hb2.cell (p := ⟨w.heap.size, 1, none⟩) (by show w.heap.size < _; simp)).trans c1; have hl2 := hb2.size; simp at hl2)
        | (go_at_call 29; refine (notW_any B 30 #[] wantB _ (may_ask B hB _ (hm.later hb3))).mono ?_; rintro e w3 ⟨k, cap, rfl, hn, hb4⟩; have hb5 := chain hb3 hb4; have e0 := (hb4.cell (p := ⟨w.heap.size, 0, none⟩) (by show w.heap.size < _; omega)).trans d0; have e1 := (hb4.cell (p := ⟨w.heap.size, 1, none⟩) (by show w.heap.size < _; omega)).trans d1; have Hn := Lib.hid hn; clear hn; have hl3 := hb4.size)
        | (go_at_call 28; refine (cn _ _ _ (hrt.later hb5) Hn.out).mono ?_; rintro e w4 ⟨rfl, hb6⟩; have f0 := (hb6.cell (p := ⟨w.heap.size, 0, none⟩) (by show w.heap.size < _; omega)).trans e0; have f1 := (hb6.cell (p := ⟨w.heap.size, 1, none⟩) (by show w.heap.size < _; omega)).trans e1))
    all_goals (go_wp2; go_ret; exact ⟨ret_bool (by rw [H.out]), chain hb5 hb6⟩)
theorem Empty_any (B : Nat) (s : Sel) (u t : Value) (w : World) (hu : RowAt B (prR B) w u s.labels) (ht : RowAt B (wtR B) w t s.wants) :
    Calls Tryd.prog 22 #[.agg #[u, t]] w fun e w' => e = .returned (.bool (emptyB s)) ∧ Below w.heap.size w w' := by
  obtain ⟨au, cu, rfl, _, hcu, _, _⟩ := hu
  obtain ⟨at_, ct, rfl, _, hct, _, _⟩ := ht
  have hb1 := below_new w (.cells #[.slice au s.labels.length cu, .slice at_ s.wants.length ct] 25)
  by_cases h1 : s.labels.length = 0
  · have H := Lib.hid (show emptyB s = decide (s.wants.length = 0) by unfold emptyB; rw [decide_eq_true h1, Bool.true_and])
    have e1 : ((s.labels.length : Int) == 0) = true := by rw [h1]; rfl
    have H1 := Lib.hid h1
    clear h1
    go_enter Tryd.func22, Tryd.ntmps22
    go_wp2
    go_ret
    exact ⟨ret_bool (len_zero H.out), hb1⟩
  · have H := Lib.hid (show emptyB s = false by unfold emptyB; rw [decide_eq_false h1, Bool.false_and])
    have e1 : ((s.labels.length : Int) == 0) = false := beq_eq_false_iff_ne.2 (by omega)
    clear h1
    go_enter Tryd.func22, Tryd.ntmps22
    go_wp2
    go_ret
    exact ⟨ret_bool H.out.symm, hb1⟩
end Go.Proofs.YtodobacgbbpmfaaDoor.lab
