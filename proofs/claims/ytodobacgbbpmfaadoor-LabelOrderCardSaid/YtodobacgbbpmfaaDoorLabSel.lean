/- Layer 7: label.Selects, and its closures. -/
import Derived.Test.YtodobacgbbpmfaaDoorLabPick
namespace Go.Proofs.YtodobacgbbpmfaaDoor.lab
open Go.RowKit Go.Proofs.YtodobacgbbpmfaaDoor.rep

theorem cell_lt {w : World} {g j : Nat} {v : Value} (h : w.cell? ⟨g, j, none⟩ = some v) : g < w.heap.size := World.block_lt_of_cell? w _ h
set_option maxHeartbeats 1000000 in
theorem selP_any (B : Nat) (hB : B ≤ 140737488355328) (x : Pr) (a : Option Addr) (c : Nat) (l : List Pr) (hl : l.length ≤ 9223372036854775807) (g : Nat) (w : World) (hg : w.cell? ⟨g, 0, none⟩ = some (.slice a l.length c)) (hr : RowIn (prR B) w a l) :
    Calls Tryd.prog 36 #[.agg #[.string x.key, .string x.value], .pointer (some ⟨g, 0, none⟩)] w fun e w' => e = .returned (.bool (!(pairB l x))) ∧ Below w.heap.size w w' := by
  have hlt := cell_lt hg
  have ch := fun w hr => Has_any B hB a c l hl x.key w hr
  have hb1 := below_new w (.cells #[.string x.key, .string x.value] 43)
  unfold HasTo at ch
  cases hh : hasB l x.key with
  | false =>
    have H : Hid ((!(pairB l x)) = true) := by unfold pairB; rw [hh]; rfl
    rw [hh] at ch
    clear hh
    generalize hasV l x.key = v at *
    go_enter Tryd.func36, Tryd.ntmps36
    go_wp2_with fail
    refine (ch _ (hr.later hb1)).mono ?_
    rintro e w1 ⟨rfl, hb2⟩
    go_wp2
    go_ret
    exact ⟨ret_bool H.out.symm, chain hb1 hb2⟩
  | true =>
    cases hv : ((hasV l x.key).toList == x.value.toList) with
    | false =>
      have H : Hid ((!(pairB l x)) = true) := by unfold pairB; rw [hv, Bool.and_false]; rfl
      have hv2 : ((hasV l x.key).toList != x.value.toList) = true := by unfold bne; rw [hv]; rfl
      rw [hh] at ch
      clear hh
      generalize hasV l x.key = v at *
      go_enter Tryd.func36, Tryd.ntmps36
      go_wp2_with fail
      refine (ch _ (hr.later hb1)).mono ?_
      rintro e w1 ⟨rfl, hb2⟩
      have d1 : w1.cell? ⟨w.heap.size, 1, none⟩ = some (.string x.value) := (hb2.cell (p := ⟨w.heap.size, 1, none⟩) (by show w.heap.size < _; simp)).trans (cell_new _ _ _ _)
      go_wp2
      go_ret
      exact ⟨ret_bool H.out.symm, chain hb1 hb2⟩
    | true =>
      have H : Hid ((!(pairB l x)) = false) := by unfold pairB; rw [hv, hh]; rfl
      have hv2 : ((hasV l x.key).toList != x.value.toList) = false := by unfold bne; rw [hv]; rfl
      rw [hh] at ch
      clear hh
      generalize hasV l x.key = v at *
      go_enter Tryd.func36, Tryd.ntmps36
      go_wp2_with fail
      refine (ch _ (hr.later hb1)).mono ?_
      rintro e w1 ⟨rfl, hb2⟩
      have d1 : w1.cell? ⟨w.heap.size, 1, none⟩ = some (.string x.value) := (hb2.cell (p := ⟨w.heap.size, 1, none⟩) (by show w.heap.size < _; simp)).trans (cell_new _ _ _ _)
      go_wp2
      go_ret
      exact ⟨ret_bool H.out.symm, chain hb1 hb2⟩
set_option maxHeartbeats 1000000 in
theorem selW_any (B : Nat) (hB : B ≤ 140737488355328) (x : Wt) (u : Value) (a : Option Addr) (c : Nat) (l : List Pr) (hl : l.length ≤ 9223372036854775807) (g : Nat) (w : World) (hg : w.cell? ⟨g, 0, none⟩ = some (.slice a l.length c)) (hu : RowAt B (text B) w u x.vals) (hr : RowIn (prR B) w a l) :
    Calls Tryd.prog 37 #[.agg #[.string x.key, .string x.how, u], .pointer (some ⟨g, 0, none⟩)] w fun e w' => e = .returned (.bool (!(wantsB x l))) ∧ Below w.heap.size w w' := by
  have hlt := cell_lt hg
  have cw := fun w hu hr => Wants_any B hB x u a c l hl w hu hr
  have hb1 := below_new w (.cells #[.string x.key, .string x.how, u] 37)
  go_enter Tryd.func37, Tryd.ntmps37
  go_wp2_with fail
  refine (cw _ (hu.later hb1) (hr.later hb1)).mono ?_
  rintro e w1 ⟨rfl, hb2⟩
  go_wp2
  go_ret
  exact ⟨rfl, chain hb1 hb2⟩
theorem any_not {α : Type} (p : α → Bool) (l : List α) : (l.any fun x => !(p x)) = !(l.all p) := by
  induction l with
  | nil => rfl
  | cons x l ih => rw [List.any_cons, List.all_cons, ih]; cases p x <;> rfl
set_option maxHeartbeats 1000000 in
theorem Selects_any (B : Nat) (hB : B ≤ 140737488355328) (s : Sel) (u t : Value) (a : Option Addr) (c : Nat) (l : List Pr) (hl : l.length ≤ 9223372036854775807) (w0 : World) (hu : RowAt B (prR B) w0 u s.labels) (ht : RowAt B (wtR B) w0 t s.wants) (hr : RowIn (prR B) w0 a l) :
    Calls Tryd.prog 20 #[.agg #[u, t], .slice a l.length c] w0 fun e w' => e = .returned (.bool (selB s l)) ∧ Below w0.heap.size w0 w' := by
  have hb1 := below_new w0 (.cells #[u, t] 25)
  have hb2 := chain hb1 (below_new (w0.alloc (.cells #[u, t] 25)) (.cells #[.slice a l.length c] 22))
  have cg : ((w0.alloc (.cells #[u, t] 25)).alloc (.cells #[.slice a l.length c] 22)).cell? ⟨w0.heap.size + 1, 0, none⟩ = some (.slice a l.length c) := by
    have := cell_new (w0.alloc (.cells #[u, t] 25)) #[.slice a l.length c] 22 0
    rwa [World.size_alloc] at this
  have hp : AskR (PrV B) 36 #[.pointer (some ⟨w0.heap.size + 1, 0, none⟩)] (fun x => !(pairB l x)) ((w0.alloc (.cells #[u, t] 25)).alloc (.cells #[.slice a l.length c] 22)) :=
    ⟨enters_of Tryd.func36 (by kernel_rfl) rfl, fun W v x hx hb => by
      obtain ⟨rfl, _⟩ := hx
      exact selP_any B hB x a c l hl _ W ((hb.cell (cell_lt cg)).trans cg) (hr.later (chain hb2 hb))⟩
  have hq : AskR (WtV B) 37 #[.pointer (some ⟨w0.heap.size + 1, 0, none⟩)] (fun x => !(wantsB x l)) ((w0.alloc (.cells #[u, t] 25)).alloc (.cells #[.slice a l.length c] 22)) :=
    ⟨enters_of Tryd.func37 (by kernel_rfl) rfl, fun W v x hx hb => by
      obtain ⟨y, rfl, _, _, hy⟩ := hx
      exact selW_any B hB x y a c l hl _ W ((hb.cell (cell_lt cg)).trans cg) hy (hr.later (chain hb2 hb))⟩
  have Hp := Lib.hid hp
  have Hq := Lib.hid hq
  have Hr := Lib.hid hr
  clear hp hq cg
  obtain ⟨au, cu, rfl, _, hcu, _, hru⟩ := hu
  obtain ⟨at_, ct, rfl, _, hct, _, hrt⟩ := ht
  have Hru := Lib.hid (hru.later hb2)
  have Hrt := Lib.hid (hrt.later hb2)
  clear hru hrt
  have c1 := fun w h1 h2 => conP_any B au cu s.labels (by omega) 36 #[.pointer (some ⟨w0.heap.size + 1, 0, none⟩)] (fun x => !(pairB l x)) w h1 h2
  have c2 := fun w h1 h2 => conW_any B at_ ct s.wants (by omega) 37 #[.pointer (some ⟨w0.heap.size + 1, 0, none⟩)] (fun x => !(wantsB x l)) w h1 h2
  rw [any_not] at c1 c2
  cases h1 : s.labels.all (pairB l) with
  | false =>
    have H : Hid (selB s l = false) := by unfold selB; rw [h1]; rfl
    rw [h1] at c1
    clear c2 h1
    go_enter Tryd.func20, Tryd.ntmps20
    go_wp2_with fail
    refine (c1 _ Hru.out Hp.out).mono ?_
    rintro e w1 ⟨rfl, hb3⟩
    go_wp2
    go_ret
    exact ⟨ret_bool H.out.symm, chain hb2 hb3⟩
  | true =>
    have H : Hid (selB s l = s.wants.all fun x => wantsB x l) := by unfold selB; rw [h1]; rfl
    rw [h1] at c1
    clear h1
    generalize (s.wants.all fun x => wantsB x l) = z at *
    go_enter Tryd.func20, Tryd.ntmps20
    go_wp2_with fail
    refine (c1 _ Hru.out Hp.out).mono ?_
    rintro e w1 ⟨rfl, hb3⟩
    have d1 : w1.cell? ⟨w0.heap.size, 1, none⟩ = some (.slice at_ s.wants.length ct) := ((hb3.cell (p := ⟨w0.heap.size, 1, none⟩) (by simp only [World.size_alloc]; show w0.heap.size < _; omega)).trans ((below_new (w0.alloc (.cells #[.slice au s.labels.length cu, .slice at_ s.wants.length ct] 25)) (.cells #[.slice a l.length c] 22)).cell (p := ⟨w0.heap.size, 1, none⟩) (by show w0.heap.size < _; simp))).trans (cell_new _ _ _ _)
    go_wp2_with fail
    refine (c2 _ (Hrt.out.later hb3) (Hq.out.later hb3)).mono ?_
    rintro e w2 ⟨rfl, hb4⟩
    go_wp2
    go_ret
    exact ⟨ret_bool (by rw [H.out]), chain (chain hb2 hb3) hb4⟩
end Go.Proofs.YtodobacgbbpmfaaDoor.lab
