/- Layer 8: rule's Attr. -/
import Derived.Test.YthflpgeonllgdaaDoorRulAsk
import Derived.Test.YthflpgeonllgdaaDoorRepH
import Derived.Laws.StructEq
namespace Go.Proofs.YthflpgeonllgdaaDoor.rul
open Go.RowKit Go.Proofs.YthflpgeonllgdaaDoor.rep Go.Proofs.YthflpgeonllgdaaDoor.lab

def segX (x : ByteArray) : Bool := nam.segB x.data.toList
def subX (x : ByteArray) : Bool := nam.subB x.data.toList
def labX (x : ByteArray) : Bool := nam.labB x.data.toList
def restE (x : Ak) : Bool := x.group.toList.isEmpty && (x.resource.toList.isEmpty && (x.part.toList.isEmpty && (x.name.toList.isEmpty && x.space.toList.isEmpty)))
def attrB (x : Ak) : Bool := nam.verbB x.verb.data.toList && (if x.path.toList.isEmpty = true then segX x.resource && (orNone segX x.part && (orNone segX x.name && (orNone subX x.group && orNone labX x.space))) else nam.pathB x.path.data.toList && restE x)
set_option maxHeartbeats 2000000 in
set_option maxRecDepth 100000 in
theorem Attr_any (x : Ak) (hx : akOk 1048576 x) (w : World) (hm : nam.MaxL w) :
    Calls Tryd.prog 14 #[.agg #[.string x.verb, .string x.group, .string x.resource, .string x.part, .string x.name, .string x.space, .string x.path]] w fun e w' => e = .returned (.bool (attrB x)) ∧ Below w.heap.size w w' := by
  obtain ⟨z1, z2, z3, z4, z5, z6, z7⟩ := hx
  have b0 := below_new w (.cells #[.string x.verb, .string x.group, .string x.resource, .string x.part, .string x.name, .string x.space, .string x.path] 26)
  have DC := Lib.hid (show ∀ W, Below (w.alloc (.cells #[.string x.verb, .string x.group, .string x.resource, .string x.part, .string x.name, .string x.space, .string x.path] 26)).heap.size (w.alloc (.cells #[.string x.verb, .string x.group, .string x.resource, .string x.part, .string x.name, .string x.space, .string x.path] 26)) W → W.cell? ⟨w.heap.size, 0, none⟩ = some (.string x.verb) ∧ W.cell? ⟨w.heap.size, 1, none⟩ = some (.string x.group) ∧ W.cell? ⟨w.heap.size, 2, none⟩ = some (.string x.resource) ∧ W.cell? ⟨w.heap.size, 3, none⟩ = some (.string x.part) ∧ W.cell? ⟨w.heap.size, 4, none⟩ = some (.string x.name) ∧ W.cell? ⟨w.heap.size, 5, none⟩ = some (.string x.space) ∧ W.cell? ⟨w.heap.size, 6, none⟩ = some (.string x.path) from fun W h => by
    refine ⟨?_, ?_, ?_, ?_, ?_, ?_, ?_⟩ <;> exact (h.cell (by show w.heap.size < _; simp)).trans (cell_new _ _ _ _))
  have HM := Lib.hid (show ∀ W, Below (w.alloc (.cells #[.string x.verb, .string x.group, .string x.resource, .string x.part, .string x.name, .string x.space, .string x.path] 26)).heap.size (w.alloc (.cells #[.string x.verb, .string x.group, .string x.resource, .string x.part, .string x.name, .string x.space, .string x.path] 26)) W → nam.MaxL W from fun W h => hm.later (chain b0 h))
  have H := Lib.hid (show attrB x = (nam.verbB x.verb.data.toList && (if x.path.toList.isEmpty = true then segX x.resource && (orNone segX x.part && (orNone segX x.name && (orNone subX x.group && orNone labX x.space))) else nam.pathB x.path.data.toList && restE x)) from rfl)
  have cv := fun W => nam.Verb_any x.verb (by unfold Go.maxLen; omega) W
  have cp := fun W => nam.Path_any x.path (by unfold Go.maxLen; omega) W
  have cs : ∀ W, Calls Tryd.prog 38 #[.string x.resource] W fun e w' => e = .returned (.bool (segX x.resource)) ∧ Below W.heap.size W w' := fun W => nam.Segment_any x.resource (by unfold Go.maxLen; omega) W
  have a4 := fun W => nor_any 1048576 _ _ segX W (ask_segment 1048576 (by omega) W)
  have a5 := fun W h => nor_any 1048576 _ _ subX W (ask_subdomain 1048576 (by omega) W h)
  have a6 := fun W => nor_any 1048576 _ _ labX W (ask_label 1048576 (by omega) W)
  obtain ⟨b1, e1⟩ : ∃ b, nam.verbB x.verb.data.toList = b := ⟨_, rfl⟩
  obtain ⟨b2, e2⟩ : ∃ b, nam.pathB x.path.data.toList = b := ⟨_, rfl⟩
  obtain ⟨b3, e3⟩ : ∃ b, segX x.resource = b := ⟨_, rfl⟩
  obtain ⟨b4, e4⟩ : ∃ b, orNone segX x.part = b := ⟨_, rfl⟩
  obtain ⟨b5, e5⟩ : ∃ b, orNone segX x.name = b := ⟨_, rfl⟩
  obtain ⟨b6, e6⟩ : ∃ b, orNone subX x.group = b := ⟨_, rfl⟩
  obtain ⟨b7, e7⟩ : ∃ b, orNone labX x.space = b := ⟨_, rfl⟩
  rw [e1] at cv H
  rw [e2] at cp H
  rw [e3] at cs H
  rw [e4, e5, e6, e7] at H
  have E4 := Lib.hid e4
  have E5 := Lib.hid e5
  have E6 := Lib.hid e6
  have E7 := Lib.hid e7
  clear e1 e2 e3 e4 e5 e6 e7
  cases b1 with
  | false =>
    go_enter Tryd.func14, Tryd.ntmps14
    go_wp2_with fail
    generalize w.alloc (.cells #[.string x.verb, .string x.group, .string x.resource, .string x.part, .string x.name, .string x.space, .string x.path] 26) = w0 at *
    have h0 := Below.refl w0.heap.size w0
    obtain ⟨q0, q1, q2, q3, q4, q5, q6⟩ := DC.out _ h0
    refine (cv _).mono ?_
    rintro e w1 ⟨rfl, rfl⟩
    go_wp2
    go_ret
    exact ⟨ret_bool H.out.symm, chain b0 h0⟩
  | true =>
    cases e0 : x.path.toList.isEmpty with
    | false =>
      have H2 := Lib.hid (show attrB x = (b2 && restE x) by rw [H.out, e0]; rfl)
      cases b2 with
      | false =>
        go_enter Tryd.func14, Tryd.ntmps14
        go_wp2_with fail
        generalize w.alloc (.cells #[.string x.verb, .string x.group, .string x.resource, .string x.part, .string x.name, .string x.space, .string x.path] 26) = w0 at *
        have h0 := Below.refl w0.heap.size w0
        obtain ⟨q0, q1, q2, q3, q4, q5, q6⟩ := DC.out _ h0
        refine (cv _).mono ?_
        rintro e w1 ⟨rfl, rfl⟩
        go_wp2_with fail
        refine (cp _).mono ?_
        rintro e w1 ⟨rfl, rfl⟩
        go_wp2
        go_ret
        exact ⟨ret_bool H2.out.symm, chain b0 h0⟩
      | true =>
        have H3 := Lib.hid (show attrB x = restE x by rw [H2.out]; rfl)
        go_enter Tryd.func14, Tryd.ntmps14
        go_wp2_with fail
        generalize w.alloc (.cells #[.string x.verb, .string x.group, .string x.resource, .string x.part, .string x.name, .string x.space, .string x.path] 26) = w0 at *
        have h0 := Below.refl w0.heap.size w0
        obtain ⟨q0, q1, q2, q3, q4, q5, q6⟩ := DC.out _ h0
        refine (cv _).mono ?_
        rintro e w1 ⟨rfl, rfl⟩
        go_wp2_with fail
        refine (cp _).mono ?_
        rintro e w1 ⟨rfl, rfl⟩
        go_wp2
        all_goals go_ret
        all_goals refine ⟨ret_bool ?_, chain b0 h0⟩
        all_goals rw [H3.out]
        all_goals unfold restE
        all_goals simp [*]
    | true =>
      have H2 := Lib.hid (show attrB x = (b3 && (b4 && (b5 && (b6 && b7)))) by rw [H.out, e0]; rfl)
      cases b3 with
      | false =>
        go_enter Tryd.func14, Tryd.ntmps14
        go_wp2_with fail
        generalize w.alloc (.cells #[.string x.verb, .string x.group, .string x.resource, .string x.part, .string x.name, .string x.space, .string x.path] 26) = w0 at *
        have h0 := Below.refl w0.heap.size w0
        obtain ⟨q0, q1, q2, q3, q4, q5, q6⟩ := DC.out _ h0
        refine (cv _).mono ?_
        rintro e w1 ⟨rfl, rfl⟩
        go_wp2_with fail
        refine wp_region_noPanic ?_
        refine wp_region_held_drew (S := fun w' => w'.cell? ⟨w.heap.size, 0, none⟩ = some (.string x.verb) ∧ w'.cell? ⟨w.heap.size, 1, none⟩ = some (.string x.group) ∧ w'.cell? ⟨w.heap.size, 2, none⟩ = some (.string x.resource) ∧ w'.cell? ⟨w.heap.size, 3, none⟩ = some (.string x.part) ∧ w'.cell? ⟨w.heap.size, 4, none⟩ = some (.string x.name) ∧ w'.cell? ⟨w.heap.size, 5, none⟩ = some (.string x.space) ∧ w'.cell? ⟨w.heap.size, 6, none⟩ = some (.string x.path)) (by kernel_rfl) ?_ (fun hHeld => ?_)
        · exact (DC.out _ h0.drew)
        refine takeH 0 (d := 22) (v := ?_) rfl (by kernel_rfl) (by kernel_rfl) (by kernel_rfl) noPanic_none (by rfl) hHeld ?_ ?_
        rotate_left
        · (intro w hSw; (try dsimp only at hSw); go_simp; try (with_reducible rfl))
        try simp only [Act.put, List.setIfInBounds_toArray, List.set_cons_zero, List.set_cons_succ]
        refine takeH 1 (d := 23) (v := ?_) rfl (by kernel_rfl) (by kernel_rfl) (by kernel_rfl) noPanic_none (by rfl) hHeld ?_ ?_
        rotate_left
        · (intro w hSw; (try dsimp only at hSw); go_simp; try (with_reducible rfl))
        try simp only [Act.put, List.setIfInBounds_toArray, List.set_cons_zero, List.set_cons_succ]
        refine wpAnyH_ready (rs := [2]) (by kernel_rfl) (by simp) ?_
        refine stepH (i := 2) (d := 24) rfl (by rfl) (fun K hK => ?_) ?_
        · go_simp
          refine (cs _).mono ?_
          rintro e w3 ⟨rfl, hb3⟩
          have h3 := chain h0.drew hb3
          refine hK.out _ _ ?_ (fun hHeld => ?_)
          · exact DC.out _ h3
          clear hK K
          try simp only [Act.put, List.setIfInBounds_toArray, List.set_cons_zero, List.set_cons_succ]
          refine takeH 3 (d := 25) (v := ?_) rfl (by kernel_rfl) (by kernel_rfl) (by kernel_rfl) noPanic_none (by rfl) hHeld ?_ ?_
          rotate_left
          · (intro w hSw; (try dsimp only at hSw); go_simp; try (with_reducible rfl))
          try simp only [Act.put, List.setIfInBounds_toArray, List.set_cons_zero, List.set_cons_succ]
          refine skipH 4 (d := 26) rfl (by kernel_rfl) (by kernel_rfl) (by kernel_rfl) noPanic_none (by rfl) hHeld ?_
          try simp only [Act.put, List.setIfInBounds_toArray, List.set_cons_zero, List.set_cons_succ]
          refine skipH 5 (d := 27) rfl (by kernel_rfl) (by kernel_rfl) (by kernel_rfl) noPanic_none (by rfl) hHeld ?_
          try simp only [Act.put, List.setIfInBounds_toArray, List.set_cons_zero, List.set_cons_succ]
          refine skipH 6 (d := 28) rfl (by kernel_rfl) (by kernel_rfl) (by kernel_rfl) noPanic_none (by rfl) hHeld ?_
          try simp only [Act.put, List.setIfInBounds_toArray, List.set_cons_zero, List.set_cons_succ]
          refine skipH 7 (d := 29) rfl (by kernel_rfl) (by kernel_rfl) (by kernel_rfl) noPanic_none (by rfl) hHeld ?_
          try simp only [Act.put, List.setIfInBounds_toArray, List.set_cons_zero, List.set_cons_succ]
          refine takeH 8 (d := 30) (v := ?_) rfl (by kernel_rfl) (by kernel_rfl) (by kernel_rfl) noPanic_none (by rfl) hHeld ?_ ?_
          rotate_left
          · (intro w hSw; (try dsimp only at hSw); go_simp; try (with_reducible rfl))
          try simp only [Act.put, List.setIfInBounds_toArray, List.set_cons_zero, List.set_cons_succ]
          refine takeH 9 (d := 31) (v := ?_) rfl (by kernel_rfl) (by kernel_rfl) (by kernel_rfl) noPanic_none (by rfl) hHeld ?_ ?_
          rotate_left
          · (intro w hSw; (try dsimp only at hSw); go_simp; try (with_reducible rfl))
          try simp only [Act.put, List.setIfInBounds_toArray, List.set_cons_zero, List.set_cons_succ]
          refine skipH 10 (d := 32) rfl (by kernel_rfl) (by kernel_rfl) (by kernel_rfl) noPanic_none (by rfl) hHeld ?_
          try simp only [Act.put, List.setIfInBounds_toArray, List.set_cons_zero, List.set_cons_succ]
          refine skipH 11 (d := 33) rfl (by kernel_rfl) (by kernel_rfl) (by kernel_rfl) noPanic_none (by rfl) hHeld ?_
          try simp only [Act.put, List.setIfInBounds_toArray, List.set_cons_zero, List.set_cons_succ]
          refine skipH 12 (d := 34) rfl (by kernel_rfl) (by kernel_rfl) (by kernel_rfl) noPanic_none (by rfl) hHeld ?_
          try simp only [Act.put, List.setIfInBounds_toArray, List.set_cons_zero, List.set_cons_succ]
          refine skipH 13 (d := 35) rfl (by kernel_rfl) (by kernel_rfl) (by kernel_rfl) noPanic_none (by rfl) hHeld ?_
          try simp only [Act.put, List.setIfInBounds_toArray, List.set_cons_zero, List.set_cons_succ]
          refine takeH 14 (d := 36) (v := ?_) rfl (by kernel_rfl) (by kernel_rfl) (by kernel_rfl) noPanic_none (by rfl) hHeld ?_ ?_
          rotate_left
          · (intro w hSw; (try dsimp only at hSw); go_simp; try (with_reducible rfl))
          try simp only [Act.put, List.setIfInBounds_toArray, List.set_cons_zero, List.set_cons_succ]
          refine takeH 15 (d := 37) (v := ?_) rfl (by kernel_rfl) (by kernel_rfl) (by kernel_rfl) noPanic_none (by rfl) hHeld ?_ ?_
          rotate_left
          · (intro w hSw; (try dsimp only at hSw); go_simp; try (with_reducible rfl))
          try simp only [Act.put, List.setIfInBounds_toArray, List.set_cons_zero, List.set_cons_succ]
          refine skipH 16 (d := 38) rfl (by kernel_rfl) (by kernel_rfl) (by kernel_rfl) noPanic_none (by rfl) hHeld ?_
          try simp only [Act.put, List.setIfInBounds_toArray, List.set_cons_zero, List.set_cons_succ]
          refine skipH 17 (d := 39) rfl (by kernel_rfl) (by kernel_rfl) (by kernel_rfl) noPanic_none (by rfl) hHeld ?_
          try simp only [Act.put, List.setIfInBounds_toArray, List.set_cons_zero, List.set_cons_succ]
          refine skipH 18 (d := 40) rfl (by kernel_rfl) (by kernel_rfl) (by kernel_rfl) noPanic_none (by rfl) hHeld ?_
          try simp only [Act.put, List.setIfInBounds_toArray, List.set_cons_zero, List.set_cons_succ]
          refine skipH 19 (d := 41) rfl (by kernel_rfl) (by kernel_rfl) (by kernel_rfl) noPanic_none (by rfl) hHeld ?_
          try simp only [Act.put, List.setIfInBounds_toArray, List.set_cons_zero, List.set_cons_succ]
          refine takeH 20 (d := 42) (v := ?_) rfl (by kernel_rfl) (by kernel_rfl) (by kernel_rfl) noPanic_none (by rfl) hHeld ?_ ?_
          rotate_left
          · (intro w hSw; (try dsimp only at hSw); go_simp; try (with_reducible rfl))
          try simp only [Act.put, List.setIfInBounds_toArray, List.set_cons_zero, List.set_cons_succ]
          refine takeH 21 (d := 43) (v := ?_) rfl (by kernel_rfl) (by kernel_rfl) (by kernel_rfl) noPanic_none (by rfl) hHeld ?_ ?_
          rotate_left
          · (intro w hSw; (try dsimp only at hSw); go_simp; try (with_reducible rfl))
          try simp only [Act.put, List.setIfInBounds_toArray, List.set_cons_zero, List.set_cons_succ]
          refine skipH 22 (d := 44) rfl (by kernel_rfl) (by kernel_rfl) (by kernel_rfl) noPanic_none (by rfl) hHeld ?_
          try simp only [Act.put, List.setIfInBounds_toArray, List.set_cons_zero, List.set_cons_succ]
          refine skipH 23 (d := 45) rfl (by kernel_rfl) (by kernel_rfl) (by kernel_rfl) noPanic_none (by rfl) hHeld ?_
          try simp only [Act.put, List.setIfInBounds_toArray, List.set_cons_zero, List.set_cons_succ]
          refine skipH 24 (d := 46) rfl (by kernel_rfl) (by kernel_rfl) (by kernel_rfl) noPanic_none (by rfl) hHeld ?_
          try simp only [Act.put, List.setIfInBounds_toArray, List.set_cons_zero, List.set_cons_succ]
          refine skipH 25 (d := 47) rfl (by kernel_rfl) (by kernel_rfl) (by kernel_rfl) noPanic_none (by rfl) hHeld ?_
          try simp only [Act.put, List.setIfInBounds_toArray, List.set_cons_zero, List.set_cons_succ]
          refine takeH 26 (d := 48) (v := ?_) rfl (by kernel_rfl) (by kernel_rfl) (by kernel_rfl) noPanic_none (by rfl) hHeld ?_ ?_
          rotate_left
          · (intro w hSw; (try dsimp only at hSw); go_simp; try (with_reducible rfl))
          try simp only [Act.put, List.setIfInBounds_toArray, List.set_cons_zero, List.set_cons_succ]
          refine takeH 27 (d := 2) (v := ?_) rfl (by kernel_rfl) (by kernel_rfl) (by kernel_rfl) noPanic_none (by rfl) hHeld ?_ ?_
          rotate_left
          · (intro w hSw; (try dsimp only at hSw); go_simp; try (with_reducible rfl))
          try simp only [Act.put, List.setIfInBounds_toArray, List.set_cons_zero, List.set_cons_succ]
          refine wpAnyH_done (by kernel_rfl) ?_ _
          refine NoPanic.normal ?_
          go_wp2
          go_ret
          exact ⟨ret_bool (by rw [H2.out]; rfl), chain b0 h3⟩
        exact AllReadyH.nil
      | true =>
        cases b4 with
        | false =>
          go_enter Tryd.func14, Tryd.ntmps14
          go_wp2_with fail
          generalize w.alloc (.cells #[.string x.verb, .string x.group, .string x.resource, .string x.part, .string x.name, .string x.space, .string x.path] 26) = w0 at *
          have h0 := Below.refl w0.heap.size w0
          obtain ⟨q0, q1, q2, q3, q4, q5, q6⟩ := DC.out _ h0
          refine (cv _).mono ?_
          rintro e w1 ⟨rfl, rfl⟩
          go_wp2_with fail
          refine wp_region_noPanic ?_
          refine wp_region_held_drew (S := fun w' => w'.cell? ⟨w.heap.size, 0, none⟩ = some (.string x.verb) ∧ w'.cell? ⟨w.heap.size, 1, none⟩ = some (.string x.group) ∧ w'.cell? ⟨w.heap.size, 2, none⟩ = some (.string x.resource) ∧ w'.cell? ⟨w.heap.size, 3, none⟩ = some (.string x.part) ∧ w'.cell? ⟨w.heap.size, 4, none⟩ = some (.string x.name) ∧ w'.cell? ⟨w.heap.size, 5, none⟩ = some (.string x.space) ∧ w'.cell? ⟨w.heap.size, 6, none⟩ = some (.string x.path)) (by kernel_rfl) ?_ (fun hHeld => ?_)
          · exact (DC.out _ h0.drew)
          refine takeH 0 (d := 22) (v := ?_) rfl (by kernel_rfl) (by kernel_rfl) (by kernel_rfl) noPanic_none (by rfl) hHeld ?_ ?_
          rotate_left
          · (intro w hSw; (try dsimp only at hSw); go_simp; try (with_reducible rfl))
          try simp only [Act.put, List.setIfInBounds_toArray, List.set_cons_zero, List.set_cons_succ]
          refine takeH 1 (d := 23) (v := ?_) rfl (by kernel_rfl) (by kernel_rfl) (by kernel_rfl) noPanic_none (by rfl) hHeld ?_ ?_
          rotate_left
          · (intro w hSw; (try dsimp only at hSw); go_simp; try (with_reducible rfl))
          try simp only [Act.put, List.setIfInBounds_toArray, List.set_cons_zero, List.set_cons_succ]
          refine wpAnyH_ready (rs := [2]) (by kernel_rfl) (by simp) ?_
          refine stepH (i := 2) (d := 24) rfl (by rfl) (fun K hK => ?_) ?_
          · go_simp
            refine (cs _).mono ?_
            rintro e w3 ⟨rfl, hb3⟩
            have h3 := chain h0.drew hb3
            refine hK.out _ _ ?_ (fun hHeld => ?_)
            · exact DC.out _ h3
            clear hK K
            try simp only [Act.put, List.setIfInBounds_toArray, List.set_cons_zero, List.set_cons_succ]
            refine takeH 3 (d := 25) (v := ?_) rfl (by kernel_rfl) (by kernel_rfl) (by kernel_rfl) noPanic_none (by rfl) hHeld ?_ ?_
            rotate_left
            · (intro w hSw; (try dsimp only at hSw); go_simp; try (with_reducible rfl))
            try simp only [Act.put, List.setIfInBounds_toArray, List.set_cons_zero, List.set_cons_succ]
            refine takeH 5 (d := 27) (v := ?_) rfl (by kernel_rfl) (by kernel_rfl) (by kernel_rfl) noPanic_none (by rfl) hHeld ?_ ?_
            rotate_left
            · (intro w hSw; (try dsimp only at hSw); go_simp; try (with_reducible rfl))
            try simp only [Act.put, List.setIfInBounds_toArray, List.set_cons_zero, List.set_cons_succ]
            refine takeH 6 (d := 28) (v := ?_) rfl (by kernel_rfl) (by kernel_rfl) (by kernel_rfl) noPanic_none (by rfl) hHeld ?_ ?_
            rotate_left
            · (intro w hSw; (try dsimp only at hSw); go_simp; try (with_reducible rfl))
            try simp only [Act.put, List.setIfInBounds_toArray, List.set_cons_zero, List.set_cons_succ]
            refine wpAnyH_ready (rs := [4]) (by kernel_rfl) (by simp) ?_
            refine stepH (i := 4) (d := 26) rfl (by rfl) (fun K hK => ?_) ?_
            · go_simp
              refine (a4 _).mono ?_
              rintro e w5 ⟨k5, cap5, rfl, hk5, hb5⟩
              have h5 := chain h3 hb5
              have ek5 := hk5.1
              have ck5 := hk5.2 w5 (.string x.part) x.part ⟨rfl, z4⟩ (Below.refl _ _)
              rw [E4.out] at ck5
              refine hK.out _ _ ?_ (fun hHeld => ?_)
              · exact DC.out _ h5
              clear hK K
              try simp only [Act.put, List.setIfInBounds_toArray, List.set_cons_zero, List.set_cons_succ]
              refine wpAnyH_ready (rs := [7]) (by kernel_rfl) (by simp) ?_
              refine stepH (i := 7) (d := 29) rfl (by rfl) (fun K hK => ?_) ?_
              · go_simp
                refine ck5.mono ?_
                rintro e w6 ⟨rfl, hb6⟩
                have h6 := chain h5 hb6
                refine hK.out _ _ ?_ (fun hHeld => ?_)
                · exact DC.out _ h6
                clear hK K
                try simp only [Act.put, List.setIfInBounds_toArray, List.set_cons_zero, List.set_cons_succ]
                refine takeH 8 (d := 30) (v := ?_) rfl (by kernel_rfl) (by kernel_rfl) (by kernel_rfl) noPanic_none (by rfl) hHeld ?_ ?_
                rotate_left
                · (intro w hSw; (try dsimp only at hSw); go_simp; try (with_reducible rfl))
                try simp only [Act.put, List.setIfInBounds_toArray, List.set_cons_zero, List.set_cons_succ]
                refine takeH 9 (d := 31) (v := ?_) rfl (by kernel_rfl) (by kernel_rfl) (by kernel_rfl) noPanic_none (by rfl) hHeld ?_ ?_
                rotate_left
                · (intro w hSw; (try dsimp only at hSw); go_simp; try (with_reducible rfl))
                try simp only [Act.put, List.setIfInBounds_toArray, List.set_cons_zero, List.set_cons_succ]
                refine skipH 10 (d := 32) rfl (by kernel_rfl) (by kernel_rfl) (by kernel_rfl) noPanic_none (by rfl) hHeld ?_
                try simp only [Act.put, List.setIfInBounds_toArray, List.set_cons_zero, List.set_cons_succ]
                refine skipH 11 (d := 33) rfl (by kernel_rfl) (by kernel_rfl) (by kernel_rfl) noPanic_none (by rfl) hHeld ?_
                try simp only [Act.put, List.setIfInBounds_toArray, List.set_cons_zero, List.set_cons_succ]
                refine skipH 12 (d := 34) rfl (by kernel_rfl) (by kernel_rfl) (by kernel_rfl) noPanic_none (by rfl) hHeld ?_
                try simp only [Act.put, List.setIfInBounds_toArray, List.set_cons_zero, List.set_cons_succ]
                refine skipH 13 (d := 35) rfl (by kernel_rfl) (by kernel_rfl) (by kernel_rfl) noPanic_none (by rfl) hHeld ?_
                try simp only [Act.put, List.setIfInBounds_toArray, List.set_cons_zero, List.set_cons_succ]
                refine takeH 14 (d := 36) (v := ?_) rfl (by kernel_rfl) (by kernel_rfl) (by kernel_rfl) noPanic_none (by rfl) hHeld ?_ ?_
                rotate_left
                · (intro w hSw; (try dsimp only at hSw); go_simp; try (with_reducible rfl))
                try simp only [Act.put, List.setIfInBounds_toArray, List.set_cons_zero, List.set_cons_succ]
                refine takeH 15 (d := 37) (v := ?_) rfl (by kernel_rfl) (by kernel_rfl) (by kernel_rfl) noPanic_none (by rfl) hHeld ?_ ?_
                rotate_left
                · (intro w hSw; (try dsimp only at hSw); go_simp; try (with_reducible rfl))
                try simp only [Act.put, List.setIfInBounds_toArray, List.set_cons_zero, List.set_cons_succ]
                refine skipH 16 (d := 38) rfl (by kernel_rfl) (by kernel_rfl) (by kernel_rfl) noPanic_none (by rfl) hHeld ?_
                try simp only [Act.put, List.setIfInBounds_toArray, List.set_cons_zero, List.set_cons_succ]
                refine skipH 17 (d := 39) rfl (by kernel_rfl) (by kernel_rfl) (by kernel_rfl) noPanic_none (by rfl) hHeld ?_
                try simp only [Act.put, List.setIfInBounds_toArray, List.set_cons_zero, List.set_cons_succ]
                refine skipH 18 (d := 40) rfl (by kernel_rfl) (by kernel_rfl) (by kernel_rfl) noPanic_none (by rfl) hHeld ?_
                try simp only [Act.put, List.setIfInBounds_toArray, List.set_cons_zero, List.set_cons_succ]
                refine skipH 19 (d := 41) rfl (by kernel_rfl) (by kernel_rfl) (by kernel_rfl) noPanic_none (by rfl) hHeld ?_
                try simp only [Act.put, List.setIfInBounds_toArray, List.set_cons_zero, List.set_cons_succ]
                refine takeH 20 (d := 42) (v := ?_) rfl (by kernel_rfl) (by kernel_rfl) (by kernel_rfl) noPanic_none (by rfl) hHeld ?_ ?_
                rotate_left
                · (intro w hSw; (try dsimp only at hSw); go_simp; try (with_reducible rfl))
                try simp only [Act.put, List.setIfInBounds_toArray, List.set_cons_zero, List.set_cons_succ]
                refine takeH 21 (d := 43) (v := ?_) rfl (by kernel_rfl) (by kernel_rfl) (by kernel_rfl) noPanic_none (by rfl) hHeld ?_ ?_
                rotate_left
                · (intro w hSw; (try dsimp only at hSw); go_simp; try (with_reducible rfl))
                try simp only [Act.put, List.setIfInBounds_toArray, List.set_cons_zero, List.set_cons_succ]
                refine skipH 22 (d := 44) rfl (by kernel_rfl) (by kernel_rfl) (by kernel_rfl) noPanic_none (by rfl) hHeld ?_
                try simp only [Act.put, List.setIfInBounds_toArray, List.set_cons_zero, List.set_cons_succ]
                refine skipH 23 (d := 45) rfl (by kernel_rfl) (by kernel_rfl) (by kernel_rfl) noPanic_none (by rfl) hHeld ?_
                try simp only [Act.put, List.setIfInBounds_toArray, List.set_cons_zero, List.set_cons_succ]
                refine skipH 24 (d := 46) rfl (by kernel_rfl) (by kernel_rfl) (by kernel_rfl) noPanic_none (by rfl) hHeld ?_
                try simp only [Act.put, List.setIfInBounds_toArray, List.set_cons_zero, List.set_cons_succ]
                refine skipH 25 (d := 47) rfl (by kernel_rfl) (by kernel_rfl) (by kernel_rfl) noPanic_none (by rfl) hHeld ?_
                try simp only [Act.put, List.setIfInBounds_toArray, List.set_cons_zero, List.set_cons_succ]
                refine takeH 26 (d := 48) (v := ?_) rfl (by kernel_rfl) (by kernel_rfl) (by kernel_rfl) noPanic_none (by rfl) hHeld ?_ ?_
                rotate_left
                · (intro w hSw; (try dsimp only at hSw); go_simp; try (with_reducible rfl))
                try simp only [Act.put, List.setIfInBounds_toArray, List.set_cons_zero, List.set_cons_succ]
                refine takeH 27 (d := 2) (v := ?_) rfl (by kernel_rfl) (by kernel_rfl) (by kernel_rfl) noPanic_none (by rfl) hHeld ?_ ?_
                rotate_left
                · (intro w hSw; (try dsimp only at hSw); go_simp; try (with_reducible rfl))
                try simp only [Act.put, List.setIfInBounds_toArray, List.set_cons_zero, List.set_cons_succ]
                refine wpAnyH_done (by kernel_rfl) ?_ _
                refine NoPanic.normal ?_
                go_wp2
                go_ret
                exact ⟨ret_bool (by rw [H2.out]; rfl), chain b0 h6⟩
              exact AllReadyH.nil
            exact AllReadyH.nil
          exact AllReadyH.nil
        | true =>
          cases b5 with
          | false =>
            go_enter Tryd.func14, Tryd.ntmps14
            go_wp2_with fail
            generalize w.alloc (.cells #[.string x.verb, .string x.group, .string x.resource, .string x.part, .string x.name, .string x.space, .string x.path] 26) = w0 at *
            have h0 := Below.refl w0.heap.size w0
            obtain ⟨q0, q1, q2, q3, q4, q5, q6⟩ := DC.out _ h0
            refine (cv _).mono ?_
            rintro e w1 ⟨rfl, rfl⟩
            go_wp2_with fail
            refine wp_region_noPanic ?_
            refine wp_region_held_drew (S := fun w' => w'.cell? ⟨w.heap.size, 0, none⟩ = some (.string x.verb) ∧ w'.cell? ⟨w.heap.size, 1, none⟩ = some (.string x.group) ∧ w'.cell? ⟨w.heap.size, 2, none⟩ = some (.string x.resource) ∧ w'.cell? ⟨w.heap.size, 3, none⟩ = some (.string x.part) ∧ w'.cell? ⟨w.heap.size, 4, none⟩ = some (.string x.name) ∧ w'.cell? ⟨w.heap.size, 5, none⟩ = some (.string x.space) ∧ w'.cell? ⟨w.heap.size, 6, none⟩ = some (.string x.path)) (by kernel_rfl) ?_ (fun hHeld => ?_)
            · exact (DC.out _ h0.drew)
            refine takeH 0 (d := 22) (v := ?_) rfl (by kernel_rfl) (by kernel_rfl) (by kernel_rfl) noPanic_none (by rfl) hHeld ?_ ?_
            rotate_left
            · (intro w hSw; (try dsimp only at hSw); go_simp; try (with_reducible rfl))
            try simp only [Act.put, List.setIfInBounds_toArray, List.set_cons_zero, List.set_cons_succ]
            refine takeH 1 (d := 23) (v := ?_) rfl (by kernel_rfl) (by kernel_rfl) (by kernel_rfl) noPanic_none (by rfl) hHeld ?_ ?_
            rotate_left
            · (intro w hSw; (try dsimp only at hSw); go_simp; try (with_reducible rfl))
            try simp only [Act.put, List.setIfInBounds_toArray, List.set_cons_zero, List.set_cons_succ]
            refine wpAnyH_ready (rs := [2]) (by kernel_rfl) (by simp) ?_
            refine stepH (i := 2) (d := 24) rfl (by rfl) (fun K hK => ?_) ?_
            · go_simp
              refine (cs _).mono ?_
              rintro e w3 ⟨rfl, hb3⟩
              have h3 := chain h0.drew hb3
              refine hK.out _ _ ?_ (fun hHeld => ?_)
              · exact DC.out _ h3
              clear hK K
              try simp only [Act.put, List.setIfInBounds_toArray, List.set_cons_zero, List.set_cons_succ]
              refine takeH 3 (d := 25) (v := ?_) rfl (by kernel_rfl) (by kernel_rfl) (by kernel_rfl) noPanic_none (by rfl) hHeld ?_ ?_
              rotate_left
              · (intro w hSw; (try dsimp only at hSw); go_simp; try (with_reducible rfl))
              try simp only [Act.put, List.setIfInBounds_toArray, List.set_cons_zero, List.set_cons_succ]
              refine takeH 5 (d := 27) (v := ?_) rfl (by kernel_rfl) (by kernel_rfl) (by kernel_rfl) noPanic_none (by rfl) hHeld ?_ ?_
              rotate_left
              · (intro w hSw; (try dsimp only at hSw); go_simp; try (with_reducible rfl))
              try simp only [Act.put, List.setIfInBounds_toArray, List.set_cons_zero, List.set_cons_succ]
              refine takeH 6 (d := 28) (v := ?_) rfl (by kernel_rfl) (by kernel_rfl) (by kernel_rfl) noPanic_none (by rfl) hHeld ?_ ?_
              rotate_left
              · (intro w hSw; (try dsimp only at hSw); go_simp; try (with_reducible rfl))
              try simp only [Act.put, List.setIfInBounds_toArray, List.set_cons_zero, List.set_cons_succ]
              refine wpAnyH_ready (rs := [4]) (by kernel_rfl) (by simp) ?_
              refine stepH (i := 4) (d := 26) rfl (by rfl) (fun K hK => ?_) ?_
              · go_simp
                refine (a4 _).mono ?_
                rintro e w5 ⟨k5, cap5, rfl, hk5, hb5⟩
                have h5 := chain h3 hb5
                have ek5 := hk5.1
                have ck5 := hk5.2 w5 (.string x.part) x.part ⟨rfl, z4⟩ (Below.refl _ _)
                rw [E4.out] at ck5
                refine hK.out _ _ ?_ (fun hHeld => ?_)
                · exact DC.out _ h5
                clear hK K
                try simp only [Act.put, List.setIfInBounds_toArray, List.set_cons_zero, List.set_cons_succ]
                refine wpAnyH_ready (rs := [7]) (by kernel_rfl) (by simp) ?_
                refine stepH (i := 7) (d := 29) rfl (by rfl) (fun K hK => ?_) ?_
                · go_simp
                  refine ck5.mono ?_
                  rintro e w6 ⟨rfl, hb6⟩
                  have h6 := chain h5 hb6
                  refine hK.out _ _ ?_ (fun hHeld => ?_)
                  · exact DC.out _ h6
                  clear hK K
                  try simp only [Act.put, List.setIfInBounds_toArray, List.set_cons_zero, List.set_cons_succ]
                  refine takeH 8 (d := 30) (v := ?_) rfl (by kernel_rfl) (by kernel_rfl) (by kernel_rfl) noPanic_none (by rfl) hHeld ?_ ?_
                  rotate_left
                  · (intro w hSw; (try dsimp only at hSw); go_simp; try (with_reducible rfl))
                  try simp only [Act.put, List.setIfInBounds_toArray, List.set_cons_zero, List.set_cons_succ]
                  refine takeH 9 (d := 31) (v := ?_) rfl (by kernel_rfl) (by kernel_rfl) (by kernel_rfl) noPanic_none (by rfl) hHeld ?_ ?_
                  rotate_left
                  · (intro w hSw; (try dsimp only at hSw); go_simp; try (with_reducible rfl))
                  try simp only [Act.put, List.setIfInBounds_toArray, List.set_cons_zero, List.set_cons_succ]
                  refine takeH 11 (d := 33) (v := ?_) rfl (by kernel_rfl) (by kernel_rfl) (by kernel_rfl) noPanic_none (by rfl) hHeld ?_ ?_
                  rotate_left
                  · (intro w hSw; (try dsimp only at hSw); go_simp; try (with_reducible rfl))
                  try simp only [Act.put, List.setIfInBounds_toArray, List.set_cons_zero, List.set_cons_succ]
                  refine takeH 12 (d := 34) (v := ?_) rfl (by kernel_rfl) (by kernel_rfl) (by kernel_rfl) noPanic_none (by rfl) hHeld ?_ ?_
                  rotate_left
                  · (intro w hSw; (try dsimp only at hSw); go_simp; try (with_reducible rfl))
                  try simp only [Act.put, List.setIfInBounds_toArray, List.set_cons_zero, List.set_cons_succ]
                  refine wpAnyH_ready (rs := [10]) (by kernel_rfl) (by simp) ?_
                  refine stepH (i := 10) (d := 32) rfl (by rfl) (fun K hK => ?_) ?_
                  · go_simp
                    refine (a4 _).mono ?_
                    rintro e w7 ⟨k7, cap7, rfl, hk7, hb7⟩
                    have h7 := chain h6 hb7
                    have ek7 := hk7.1
                    have ck7 := hk7.2 w7 (.string x.name) x.name ⟨rfl, z5⟩ (Below.refl _ _)
                    rw [E5.out] at ck7
                    refine hK.out _ _ ?_ (fun hHeld => ?_)
                    · exact DC.out _ h7
                    clear hK K
                    try simp only [Act.put, List.setIfInBounds_toArray, List.set_cons_zero, List.set_cons_succ]
                    refine wpAnyH_ready (rs := [13]) (by kernel_rfl) (by simp) ?_
                    refine stepH (i := 13) (d := 35) rfl (by rfl) (fun K hK => ?_) ?_
                    · go_simp
                      refine ck7.mono ?_
                      rintro e w8 ⟨rfl, hb8⟩
                      have h8 := chain h7 hb8
                      refine hK.out _ _ ?_ (fun hHeld => ?_)
                      · exact DC.out _ h8
                      clear hK K
                      try simp only [Act.put, List.setIfInBounds_toArray, List.set_cons_zero, List.set_cons_succ]
                      refine takeH 14 (d := 36) (v := ?_) rfl (by kernel_rfl) (by kernel_rfl) (by kernel_rfl) noPanic_none (by rfl) hHeld ?_ ?_
                      rotate_left
                      · (intro w hSw; (try dsimp only at hSw); go_simp; try (with_reducible rfl))
                      try simp only [Act.put, List.setIfInBounds_toArray, List.set_cons_zero, List.set_cons_succ]
                      refine takeH 15 (d := 37) (v := ?_) rfl (by kernel_rfl) (by kernel_rfl) (by kernel_rfl) noPanic_none (by rfl) hHeld ?_ ?_
                      rotate_left
                      · (intro w hSw; (try dsimp only at hSw); go_simp; try (with_reducible rfl))
                      try simp only [Act.put, List.setIfInBounds_toArray, List.set_cons_zero, List.set_cons_succ]
                      refine skipH 16 (d := 38) rfl (by kernel_rfl) (by kernel_rfl) (by kernel_rfl) noPanic_none (by rfl) hHeld ?_
                      try simp only [Act.put, List.setIfInBounds_toArray, List.set_cons_zero, List.set_cons_succ]
                      refine skipH 17 (d := 39) rfl (by kernel_rfl) (by kernel_rfl) (by kernel_rfl) noPanic_none (by rfl) hHeld ?_
                      try simp only [Act.put, List.setIfInBounds_toArray, List.set_cons_zero, List.set_cons_succ]
                      refine skipH 18 (d := 40) rfl (by kernel_rfl) (by kernel_rfl) (by kernel_rfl) noPanic_none (by rfl) hHeld ?_
                      try simp only [Act.put, List.setIfInBounds_toArray, List.set_cons_zero, List.set_cons_succ]
                      refine skipH 19 (d := 41) rfl (by kernel_rfl) (by kernel_rfl) (by kernel_rfl) noPanic_none (by rfl) hHeld ?_
                      try simp only [Act.put, List.setIfInBounds_toArray, List.set_cons_zero, List.set_cons_succ]
                      refine takeH 20 (d := 42) (v := ?_) rfl (by kernel_rfl) (by kernel_rfl) (by kernel_rfl) noPanic_none (by rfl) hHeld ?_ ?_
                      rotate_left
                      · (intro w hSw; (try dsimp only at hSw); go_simp; try (with_reducible rfl))
                      try simp only [Act.put, List.setIfInBounds_toArray, List.set_cons_zero, List.set_cons_succ]
                      refine takeH 21 (d := 43) (v := ?_) rfl (by kernel_rfl) (by kernel_rfl) (by kernel_rfl) noPanic_none (by rfl) hHeld ?_ ?_
                      rotate_left
                      · (intro w hSw; (try dsimp only at hSw); go_simp; try (with_reducible rfl))
                      try simp only [Act.put, List.setIfInBounds_toArray, List.set_cons_zero, List.set_cons_succ]
                      refine skipH 22 (d := 44) rfl (by kernel_rfl) (by kernel_rfl) (by kernel_rfl) noPanic_none (by rfl) hHeld ?_
                      try simp only [Act.put, List.setIfInBounds_toArray, List.set_cons_zero, List.set_cons_succ]
                      refine skipH 23 (d := 45) rfl (by kernel_rfl) (by kernel_rfl) (by kernel_rfl) noPanic_none (by rfl) hHeld ?_
                      try simp only [Act.put, List.setIfInBounds_toArray, List.set_cons_zero, List.set_cons_succ]
                      refine skipH 24 (d := 46) rfl (by kernel_rfl) (by kernel_rfl) (by kernel_rfl) noPanic_none (by rfl) hHeld ?_
                      try simp only [Act.put, List.setIfInBounds_toArray, List.set_cons_zero, List.set_cons_succ]
                      refine skipH 25 (d := 47) rfl (by kernel_rfl) (by kernel_rfl) (by kernel_rfl) noPanic_none (by rfl) hHeld ?_
                      try simp only [Act.put, List.setIfInBounds_toArray, List.set_cons_zero, List.set_cons_succ]
                      refine takeH 26 (d := 48) (v := ?_) rfl (by kernel_rfl) (by kernel_rfl) (by kernel_rfl) noPanic_none (by rfl) hHeld ?_ ?_
                      rotate_left
                      · (intro w hSw; (try dsimp only at hSw); go_simp; try (with_reducible rfl))
                      try simp only [Act.put, List.setIfInBounds_toArray, List.set_cons_zero, List.set_cons_succ]
                      refine takeH 27 (d := 2) (v := ?_) rfl (by kernel_rfl) (by kernel_rfl) (by kernel_rfl) noPanic_none (by rfl) hHeld ?_ ?_
                      rotate_left
                      · (intro w hSw; (try dsimp only at hSw); go_simp; try (with_reducible rfl))
                      try simp only [Act.put, List.setIfInBounds_toArray, List.set_cons_zero, List.set_cons_succ]
                      refine wpAnyH_done (by kernel_rfl) ?_ _
                      refine NoPanic.normal ?_
                      go_wp2
                      go_ret
                      exact ⟨ret_bool (by rw [H2.out]; rfl), chain b0 h8⟩
                    exact AllReadyH.nil
                  exact AllReadyH.nil
                exact AllReadyH.nil
              exact AllReadyH.nil
            exact AllReadyH.nil
          | true =>
            cases b6 with
            | false =>
              go_enter Tryd.func14, Tryd.ntmps14
              go_wp2_with fail
              generalize w.alloc (.cells #[.string x.verb, .string x.group, .string x.resource, .string x.part, .string x.name, .string x.space, .string x.path] 26) = w0 at *
              have h0 := Below.refl w0.heap.size w0
              obtain ⟨q0, q1, q2, q3, q4, q5, q6⟩ := DC.out _ h0
              refine (cv _).mono ?_
              rintro e w1 ⟨rfl, rfl⟩
              go_wp2_with fail
              refine wp_region_noPanic ?_
              refine wp_region_held_drew (S := fun w' => w'.cell? ⟨w.heap.size, 0, none⟩ = some (.string x.verb) ∧ w'.cell? ⟨w.heap.size, 1, none⟩ = some (.string x.group) ∧ w'.cell? ⟨w.heap.size, 2, none⟩ = some (.string x.resource) ∧ w'.cell? ⟨w.heap.size, 3, none⟩ = some (.string x.part) ∧ w'.cell? ⟨w.heap.size, 4, none⟩ = some (.string x.name) ∧ w'.cell? ⟨w.heap.size, 5, none⟩ = some (.string x.space) ∧ w'.cell? ⟨w.heap.size, 6, none⟩ = some (.string x.path)) (by kernel_rfl) ?_ (fun hHeld => ?_)
              · exact (DC.out _ h0.drew)
              refine takeH 0 (d := 22) (v := ?_) rfl (by kernel_rfl) (by kernel_rfl) (by kernel_rfl) noPanic_none (by rfl) hHeld ?_ ?_
              rotate_left
              · (intro w hSw; (try dsimp only at hSw); go_simp; try (with_reducible rfl))
              try simp only [Act.put, List.setIfInBounds_toArray, List.set_cons_zero, List.set_cons_succ]
              refine takeH 1 (d := 23) (v := ?_) rfl (by kernel_rfl) (by kernel_rfl) (by kernel_rfl) noPanic_none (by rfl) hHeld ?_ ?_
              rotate_left
              · (intro w hSw; (try dsimp only at hSw); go_simp; try (with_reducible rfl))
              try simp only [Act.put, List.setIfInBounds_toArray, List.set_cons_zero, List.set_cons_succ]
              refine wpAnyH_ready (rs := [2]) (by kernel_rfl) (by simp) ?_
              refine stepH (i := 2) (d := 24) rfl (by rfl) (fun K hK => ?_) ?_
              · go_simp
                refine (cs _).mono ?_
                rintro e w3 ⟨rfl, hb3⟩
                have h3 := chain h0.drew hb3
                refine hK.out _ _ ?_ (fun hHeld => ?_)
                · exact DC.out _ h3
                clear hK K
                try simp only [Act.put, List.setIfInBounds_toArray, List.set_cons_zero, List.set_cons_succ]
                refine takeH 3 (d := 25) (v := ?_) rfl (by kernel_rfl) (by kernel_rfl) (by kernel_rfl) noPanic_none (by rfl) hHeld ?_ ?_
                rotate_left
                · (intro w hSw; (try dsimp only at hSw); go_simp; try (with_reducible rfl))
                try simp only [Act.put, List.setIfInBounds_toArray, List.set_cons_zero, List.set_cons_succ]
                refine takeH 5 (d := 27) (v := ?_) rfl (by kernel_rfl) (by kernel_rfl) (by kernel_rfl) noPanic_none (by rfl) hHeld ?_ ?_
                rotate_left
                · (intro w hSw; (try dsimp only at hSw); go_simp; try (with_reducible rfl))
                try simp only [Act.put, List.setIfInBounds_toArray, List.set_cons_zero, List.set_cons_succ]
                refine takeH 6 (d := 28) (v := ?_) rfl (by kernel_rfl) (by kernel_rfl) (by kernel_rfl) noPanic_none (by rfl) hHeld ?_ ?_
                rotate_left
                · (intro w hSw; (try dsimp only at hSw); go_simp; try (with_reducible rfl))
                try simp only [Act.put, List.setIfInBounds_toArray, List.set_cons_zero, List.set_cons_succ]
                refine wpAnyH_ready (rs := [4]) (by kernel_rfl) (by simp) ?_
                refine stepH (i := 4) (d := 26) rfl (by rfl) (fun K hK => ?_) ?_
                · go_simp
                  refine (a4 _).mono ?_
                  rintro e w5 ⟨k5, cap5, rfl, hk5, hb5⟩
                  have h5 := chain h3 hb5
                  have ek5 := hk5.1
                  have ck5 := hk5.2 w5 (.string x.part) x.part ⟨rfl, z4⟩ (Below.refl _ _)
                  rw [E4.out] at ck5
                  refine hK.out _ _ ?_ (fun hHeld => ?_)
                  · exact DC.out _ h5
                  clear hK K
                  try simp only [Act.put, List.setIfInBounds_toArray, List.set_cons_zero, List.set_cons_succ]
                  refine wpAnyH_ready (rs := [7]) (by kernel_rfl) (by simp) ?_
                  refine stepH (i := 7) (d := 29) rfl (by rfl) (fun K hK => ?_) ?_
                  · go_simp
                    refine ck5.mono ?_
                    rintro e w6 ⟨rfl, hb6⟩
                    have h6 := chain h5 hb6
                    refine hK.out _ _ ?_ (fun hHeld => ?_)
                    · exact DC.out _ h6
                    clear hK K
                    try simp only [Act.put, List.setIfInBounds_toArray, List.set_cons_zero, List.set_cons_succ]
                    refine takeH 8 (d := 30) (v := ?_) rfl (by kernel_rfl) (by kernel_rfl) (by kernel_rfl) noPanic_none (by rfl) hHeld ?_ ?_
                    rotate_left
                    · (intro w hSw; (try dsimp only at hSw); go_simp; try (with_reducible rfl))
                    try simp only [Act.put, List.setIfInBounds_toArray, List.set_cons_zero, List.set_cons_succ]
                    refine takeH 9 (d := 31) (v := ?_) rfl (by kernel_rfl) (by kernel_rfl) (by kernel_rfl) noPanic_none (by rfl) hHeld ?_ ?_
                    rotate_left
                    · (intro w hSw; (try dsimp only at hSw); go_simp; try (with_reducible rfl))
                    try simp only [Act.put, List.setIfInBounds_toArray, List.set_cons_zero, List.set_cons_succ]
                    refine takeH 11 (d := 33) (v := ?_) rfl (by kernel_rfl) (by kernel_rfl) (by kernel_rfl) noPanic_none (by rfl) hHeld ?_ ?_
                    rotate_left
                    · (intro w hSw; (try dsimp only at hSw); go_simp; try (with_reducible rfl))
                    try simp only [Act.put, List.setIfInBounds_toArray, List.set_cons_zero, List.set_cons_succ]
                    refine takeH 12 (d := 34) (v := ?_) rfl (by kernel_rfl) (by kernel_rfl) (by kernel_rfl) noPanic_none (by rfl) hHeld ?_ ?_
                    rotate_left
                    · (intro w hSw; (try dsimp only at hSw); go_simp; try (with_reducible rfl))
                    try simp only [Act.put, List.setIfInBounds_toArray, List.set_cons_zero, List.set_cons_succ]
                    refine wpAnyH_ready (rs := [10]) (by kernel_rfl) (by simp) ?_
                    refine stepH (i := 10) (d := 32) rfl (by rfl) (fun K hK => ?_) ?_
                    · go_simp
                      refine (a4 _).mono ?_
                      rintro e w7 ⟨k7, cap7, rfl, hk7, hb7⟩
                      have h7 := chain h6 hb7
                      have ek7 := hk7.1
                      have ck7 := hk7.2 w7 (.string x.name) x.name ⟨rfl, z5⟩ (Below.refl _ _)
                      rw [E5.out] at ck7
                      refine hK.out _ _ ?_ (fun hHeld => ?_)
                      · exact DC.out _ h7
                      clear hK K
                      try simp only [Act.put, List.setIfInBounds_toArray, List.set_cons_zero, List.set_cons_succ]
                      refine wpAnyH_ready (rs := [13]) (by kernel_rfl) (by simp) ?_
                      refine stepH (i := 13) (d := 35) rfl (by rfl) (fun K hK => ?_) ?_
                      · go_simp
                        refine ck7.mono ?_
                        rintro e w8 ⟨rfl, hb8⟩
                        have h8 := chain h7 hb8
                        refine hK.out _ _ ?_ (fun hHeld => ?_)
                        · exact DC.out _ h8
                        clear hK K
                        try simp only [Act.put, List.setIfInBounds_toArray, List.set_cons_zero, List.set_cons_succ]
                        refine takeH 14 (d := 36) (v := ?_) rfl (by kernel_rfl) (by kernel_rfl) (by kernel_rfl) noPanic_none (by rfl) hHeld ?_ ?_
                        rotate_left
                        · (intro w hSw; (try dsimp only at hSw); go_simp; try (with_reducible rfl))
                        try simp only [Act.put, List.setIfInBounds_toArray, List.set_cons_zero, List.set_cons_succ]
                        refine takeH 15 (d := 37) (v := ?_) rfl (by kernel_rfl) (by kernel_rfl) (by kernel_rfl) noPanic_none (by rfl) hHeld ?_ ?_
                        rotate_left
                        · (intro w hSw; (try dsimp only at hSw); go_simp; try (with_reducible rfl))
                        try simp only [Act.put, List.setIfInBounds_toArray, List.set_cons_zero, List.set_cons_succ]
                        refine takeH 17 (d := 39) (v := ?_) rfl (by kernel_rfl) (by kernel_rfl) (by kernel_rfl) noPanic_none (by rfl) hHeld ?_ ?_
                        rotate_left
                        · (intro w hSw; (try dsimp only at hSw); go_simp; try (with_reducible rfl))
                        try simp only [Act.put, List.setIfInBounds_toArray, List.set_cons_zero, List.set_cons_succ]
                        refine takeH 18 (d := 40) (v := ?_) rfl (by kernel_rfl) (by kernel_rfl) (by kernel_rfl) noPanic_none (by rfl) hHeld ?_ ?_
                        rotate_left
                        · (intro w hSw; (try dsimp only at hSw); go_simp; try (with_reducible rfl))
                        try simp only [Act.put, List.setIfInBounds_toArray, List.set_cons_zero, List.set_cons_succ]
                        refine wpAnyH_ready (rs := [16]) (by kernel_rfl) (by simp) ?_
                        refine stepH (i := 16) (d := 38) rfl (by rfl) (fun K hK => ?_) ?_
                        · go_simp
                          refine (a5 _ (HM.out _ h8)).mono ?_
                          rintro e w9 ⟨k9, cap9, rfl, hk9, hb9⟩
                          have h9 := chain h8 hb9
                          have ek9 := hk9.1
                          have ck9 := hk9.2 w9 (.string x.group) x.group ⟨rfl, z2⟩ (Below.refl _ _)
                          rw [E6.out] at ck9
                          refine hK.out _ _ ?_ (fun hHeld => ?_)
                          · exact DC.out _ h9
                          clear hK K
                          try simp only [Act.put, List.setIfInBounds_toArray, List.set_cons_zero, List.set_cons_succ]
                          refine wpAnyH_ready (rs := [19]) (by kernel_rfl) (by simp) ?_
                          refine stepH (i := 19) (d := 41) rfl (by rfl) (fun K hK => ?_) ?_
                          · go_simp
                            refine ck9.mono ?_
                            rintro e w10 ⟨rfl, hb10⟩
                            have h10 := chain h9 hb10
                            refine hK.out _ _ ?_ (fun hHeld => ?_)
                            · exact DC.out _ h10
                            clear hK K
                            try simp only [Act.put, List.setIfInBounds_toArray, List.set_cons_zero, List.set_cons_succ]
                            refine takeH 20 (d := 42) (v := ?_) rfl (by kernel_rfl) (by kernel_rfl) (by kernel_rfl) noPanic_none (by rfl) hHeld ?_ ?_
                            rotate_left
                            · (intro w hSw; (try dsimp only at hSw); go_simp; try (with_reducible rfl))
                            try simp only [Act.put, List.setIfInBounds_toArray, List.set_cons_zero, List.set_cons_succ]
                            refine takeH 21 (d := 43) (v := ?_) rfl (by kernel_rfl) (by kernel_rfl) (by kernel_rfl) noPanic_none (by rfl) hHeld ?_ ?_
                            rotate_left
                            · (intro w hSw; (try dsimp only at hSw); go_simp; try (with_reducible rfl))
                            try simp only [Act.put, List.setIfInBounds_toArray, List.set_cons_zero, List.set_cons_succ]
                            refine skipH 22 (d := 44) rfl (by kernel_rfl) (by kernel_rfl) (by kernel_rfl) noPanic_none (by rfl) hHeld ?_
                            try simp only [Act.put, List.setIfInBounds_toArray, List.set_cons_zero, List.set_cons_succ]
                            refine skipH 23 (d := 45) rfl (by kernel_rfl) (by kernel_rfl) (by kernel_rfl) noPanic_none (by rfl) hHeld ?_
                            try simp only [Act.put, List.setIfInBounds_toArray, List.set_cons_zero, List.set_cons_succ]
                            refine skipH 24 (d := 46) rfl (by kernel_rfl) (by kernel_rfl) (by kernel_rfl) noPanic_none (by rfl) hHeld ?_
                            try simp only [Act.put, List.setIfInBounds_toArray, List.set_cons_zero, List.set_cons_succ]
                            refine skipH 25 (d := 47) rfl (by kernel_rfl) (by kernel_rfl) (by kernel_rfl) noPanic_none (by rfl) hHeld ?_
                            try simp only [Act.put, List.setIfInBounds_toArray, List.set_cons_zero, List.set_cons_succ]
                            refine takeH 26 (d := 48) (v := ?_) rfl (by kernel_rfl) (by kernel_rfl) (by kernel_rfl) noPanic_none (by rfl) hHeld ?_ ?_
                            rotate_left
                            · (intro w hSw; (try dsimp only at hSw); go_simp; try (with_reducible rfl))
                            try simp only [Act.put, List.setIfInBounds_toArray, List.set_cons_zero, List.set_cons_succ]
                            refine takeH 27 (d := 2) (v := ?_) rfl (by kernel_rfl) (by kernel_rfl) (by kernel_rfl) noPanic_none (by rfl) hHeld ?_ ?_
                            rotate_left
                            · (intro w hSw; (try dsimp only at hSw); go_simp; try (with_reducible rfl))
                            try simp only [Act.put, List.setIfInBounds_toArray, List.set_cons_zero, List.set_cons_succ]
                            refine wpAnyH_done (by kernel_rfl) ?_ _
                            refine NoPanic.normal ?_
                            go_wp2
                            go_ret
                            exact ⟨ret_bool (by rw [H2.out]; rfl), chain b0 h10⟩
                          exact AllReadyH.nil
                        exact AllReadyH.nil
                      exact AllReadyH.nil
                    exact AllReadyH.nil
                  exact AllReadyH.nil
                exact AllReadyH.nil
              exact AllReadyH.nil
            | true =>
              go_enter Tryd.func14, Tryd.ntmps14
              go_wp2_with fail
              generalize w.alloc (.cells #[.string x.verb, .string x.group, .string x.resource, .string x.part, .string x.name, .string x.space, .string x.path] 26) = w0 at *
              have h0 := Below.refl w0.heap.size w0
              obtain ⟨q0, q1, q2, q3, q4, q5, q6⟩ := DC.out _ h0
              refine (cv _).mono ?_
              rintro e w1 ⟨rfl, rfl⟩
              go_wp2_with fail
              refine wp_region_noPanic ?_
              refine wp_region_held_drew (S := fun w' => w'.cell? ⟨w.heap.size, 0, none⟩ = some (.string x.verb) ∧ w'.cell? ⟨w.heap.size, 1, none⟩ = some (.string x.group) ∧ w'.cell? ⟨w.heap.size, 2, none⟩ = some (.string x.resource) ∧ w'.cell? ⟨w.heap.size, 3, none⟩ = some (.string x.part) ∧ w'.cell? ⟨w.heap.size, 4, none⟩ = some (.string x.name) ∧ w'.cell? ⟨w.heap.size, 5, none⟩ = some (.string x.space) ∧ w'.cell? ⟨w.heap.size, 6, none⟩ = some (.string x.path)) (by kernel_rfl) ?_ (fun hHeld => ?_)
              · exact (DC.out _ h0.drew)
              refine takeH 0 (d := 22) (v := ?_) rfl (by kernel_rfl) (by kernel_rfl) (by kernel_rfl) noPanic_none (by rfl) hHeld ?_ ?_
              rotate_left
              · (intro w hSw; (try dsimp only at hSw); go_simp; try (with_reducible rfl))
              try simp only [Act.put, List.setIfInBounds_toArray, List.set_cons_zero, List.set_cons_succ]
              refine takeH 1 (d := 23) (v := ?_) rfl (by kernel_rfl) (by kernel_rfl) (by kernel_rfl) noPanic_none (by rfl) hHeld ?_ ?_
              rotate_left
              · (intro w hSw; (try dsimp only at hSw); go_simp; try (with_reducible rfl))
              try simp only [Act.put, List.setIfInBounds_toArray, List.set_cons_zero, List.set_cons_succ]
              refine wpAnyH_ready (rs := [2]) (by kernel_rfl) (by simp) ?_
              refine stepH (i := 2) (d := 24) rfl (by rfl) (fun K hK => ?_) ?_
              · go_simp
                refine (cs _).mono ?_
                rintro e w3 ⟨rfl, hb3⟩
                have h3 := chain h0.drew hb3
                refine hK.out _ _ ?_ (fun hHeld => ?_)
                · exact DC.out _ h3
                clear hK K
                try simp only [Act.put, List.setIfInBounds_toArray, List.set_cons_zero, List.set_cons_succ]
                refine takeH 3 (d := 25) (v := ?_) rfl (by kernel_rfl) (by kernel_rfl) (by kernel_rfl) noPanic_none (by rfl) hHeld ?_ ?_
                rotate_left
                · (intro w hSw; (try dsimp only at hSw); go_simp; try (with_reducible rfl))
                try simp only [Act.put, List.setIfInBounds_toArray, List.set_cons_zero, List.set_cons_succ]
                refine takeH 5 (d := 27) (v := ?_) rfl (by kernel_rfl) (by kernel_rfl) (by kernel_rfl) noPanic_none (by rfl) hHeld ?_ ?_
                rotate_left
                · (intro w hSw; (try dsimp only at hSw); go_simp; try (with_reducible rfl))
                try simp only [Act.put, List.setIfInBounds_toArray, List.set_cons_zero, List.set_cons_succ]
                refine takeH 6 (d := 28) (v := ?_) rfl (by kernel_rfl) (by kernel_rfl) (by kernel_rfl) noPanic_none (by rfl) hHeld ?_ ?_
                rotate_left
                · (intro w hSw; (try dsimp only at hSw); go_simp; try (with_reducible rfl))
                try simp only [Act.put, List.setIfInBounds_toArray, List.set_cons_zero, List.set_cons_succ]
                refine wpAnyH_ready (rs := [4]) (by kernel_rfl) (by simp) ?_
                refine stepH (i := 4) (d := 26) rfl (by rfl) (fun K hK => ?_) ?_
                · go_simp
                  refine (a4 _).mono ?_
                  rintro e w5 ⟨k5, cap5, rfl, hk5, hb5⟩
                  have h5 := chain h3 hb5
                  have ek5 := hk5.1
                  have ck5 := hk5.2 w5 (.string x.part) x.part ⟨rfl, z4⟩ (Below.refl _ _)
                  rw [E4.out] at ck5
                  refine hK.out _ _ ?_ (fun hHeld => ?_)
                  · exact DC.out _ h5
                  clear hK K
                  try simp only [Act.put, List.setIfInBounds_toArray, List.set_cons_zero, List.set_cons_succ]
                  refine wpAnyH_ready (rs := [7]) (by kernel_rfl) (by simp) ?_
                  refine stepH (i := 7) (d := 29) rfl (by rfl) (fun K hK => ?_) ?_
                  · go_simp
                    refine ck5.mono ?_
                    rintro e w6 ⟨rfl, hb6⟩
                    have h6 := chain h5 hb6
                    refine hK.out _ _ ?_ (fun hHeld => ?_)
                    · exact DC.out _ h6
                    clear hK K
                    try simp only [Act.put, List.setIfInBounds_toArray, List.set_cons_zero, List.set_cons_succ]
                    refine takeH 8 (d := 30) (v := ?_) rfl (by kernel_rfl) (by kernel_rfl) (by kernel_rfl) noPanic_none (by rfl) hHeld ?_ ?_
                    rotate_left
                    · (intro w hSw; (try dsimp only at hSw); go_simp; try (with_reducible rfl))
                    try simp only [Act.put, List.setIfInBounds_toArray, List.set_cons_zero, List.set_cons_succ]
                    refine takeH 9 (d := 31) (v := ?_) rfl (by kernel_rfl) (by kernel_rfl) (by kernel_rfl) noPanic_none (by rfl) hHeld ?_ ?_
                    rotate_left
                    · (intro w hSw; (try dsimp only at hSw); go_simp; try (with_reducible rfl))
                    try simp only [Act.put, List.setIfInBounds_toArray, List.set_cons_zero, List.set_cons_succ]
                    refine takeH 11 (d := 33) (v := ?_) rfl (by kernel_rfl) (by kernel_rfl) (by kernel_rfl) noPanic_none (by rfl) hHeld ?_ ?_
                    rotate_left
                    · (intro w hSw; (try dsimp only at hSw); go_simp; try (with_reducible rfl))
                    try simp only [Act.put, List.setIfInBounds_toArray, List.set_cons_zero, List.set_cons_succ]
                    refine takeH 12 (d := 34) (v := ?_) rfl (by kernel_rfl) (by kernel_rfl) (by kernel_rfl) noPanic_none (by rfl) hHeld ?_ ?_
                    rotate_left
                    · (intro w hSw; (try dsimp only at hSw); go_simp; try (with_reducible rfl))
                    try simp only [Act.put, List.setIfInBounds_toArray, List.set_cons_zero, List.set_cons_succ]
                    refine wpAnyH_ready (rs := [10]) (by kernel_rfl) (by simp) ?_
                    refine stepH (i := 10) (d := 32) rfl (by rfl) (fun K hK => ?_) ?_
                    · go_simp
                      refine (a4 _).mono ?_
                      rintro e w7 ⟨k7, cap7, rfl, hk7, hb7⟩
                      have h7 := chain h6 hb7
                      have ek7 := hk7.1
                      have ck7 := hk7.2 w7 (.string x.name) x.name ⟨rfl, z5⟩ (Below.refl _ _)
                      rw [E5.out] at ck7
                      refine hK.out _ _ ?_ (fun hHeld => ?_)
                      · exact DC.out _ h7
                      clear hK K
                      try simp only [Act.put, List.setIfInBounds_toArray, List.set_cons_zero, List.set_cons_succ]
                      refine wpAnyH_ready (rs := [13]) (by kernel_rfl) (by simp) ?_
                      refine stepH (i := 13) (d := 35) rfl (by rfl) (fun K hK => ?_) ?_
                      · go_simp
                        refine ck7.mono ?_
                        rintro e w8 ⟨rfl, hb8⟩
                        have h8 := chain h7 hb8
                        refine hK.out _ _ ?_ (fun hHeld => ?_)
                        · exact DC.out _ h8
                        clear hK K
                        try simp only [Act.put, List.setIfInBounds_toArray, List.set_cons_zero, List.set_cons_succ]
                        refine takeH 14 (d := 36) (v := ?_) rfl (by kernel_rfl) (by kernel_rfl) (by kernel_rfl) noPanic_none (by rfl) hHeld ?_ ?_
                        rotate_left
                        · (intro w hSw; (try dsimp only at hSw); go_simp; try (with_reducible rfl))
                        try simp only [Act.put, List.setIfInBounds_toArray, List.set_cons_zero, List.set_cons_succ]
                        refine takeH 15 (d := 37) (v := ?_) rfl (by kernel_rfl) (by kernel_rfl) (by kernel_rfl) noPanic_none (by rfl) hHeld ?_ ?_
                        rotate_left
                        · (intro w hSw; (try dsimp only at hSw); go_simp; try (with_reducible rfl))
                        try simp only [Act.put, List.setIfInBounds_toArray, List.set_cons_zero, List.set_cons_succ]
                        refine takeH 17 (d := 39) (v := ?_) rfl (by kernel_rfl) (by kernel_rfl) (by kernel_rfl) noPanic_none (by rfl) hHeld ?_ ?_
                        rotate_left
                        · (intro w hSw; (try dsimp only at hSw); go_simp; try (with_reducible rfl))
                        try simp only [Act.put, List.setIfInBounds_toArray, List.set_cons_zero, List.set_cons_succ]
                        refine takeH 18 (d := 40) (v := ?_) rfl (by kernel_rfl) (by kernel_rfl) (by kernel_rfl) noPanic_none (by rfl) hHeld ?_ ?_
                        rotate_left
                        · (intro w hSw; (try dsimp only at hSw); go_simp; try (with_reducible rfl))
                        try simp only [Act.put, List.setIfInBounds_toArray, List.set_cons_zero, List.set_cons_succ]
                        refine wpAnyH_ready (rs := [16]) (by kernel_rfl) (by simp) ?_
                        refine stepH (i := 16) (d := 38) rfl (by rfl) (fun K hK => ?_) ?_
                        · go_simp
                          refine (a5 _ (HM.out _ h8)).mono ?_
                          rintro e w9 ⟨k9, cap9, rfl, hk9, hb9⟩
                          have h9 := chain h8 hb9
                          have ek9 := hk9.1
                          have ck9 := hk9.2 w9 (.string x.group) x.group ⟨rfl, z2⟩ (Below.refl _ _)
                          rw [E6.out] at ck9
                          refine hK.out _ _ ?_ (fun hHeld => ?_)
                          · exact DC.out _ h9
                          clear hK K
                          try simp only [Act.put, List.setIfInBounds_toArray, List.set_cons_zero, List.set_cons_succ]
                          refine wpAnyH_ready (rs := [19]) (by kernel_rfl) (by simp) ?_
                          refine stepH (i := 19) (d := 41) rfl (by rfl) (fun K hK => ?_) ?_
                          · go_simp
                            refine ck9.mono ?_
                            rintro e w10 ⟨rfl, hb10⟩
                            have h10 := chain h9 hb10
                            refine hK.out _ _ ?_ (fun hHeld => ?_)
                            · exact DC.out _ h10
                            clear hK K
                            try simp only [Act.put, List.setIfInBounds_toArray, List.set_cons_zero, List.set_cons_succ]
                            refine takeH 20 (d := 42) (v := ?_) rfl (by kernel_rfl) (by kernel_rfl) (by kernel_rfl) noPanic_none (by rfl) hHeld ?_ ?_
                            rotate_left
                            · (intro w hSw; (try dsimp only at hSw); go_simp; try (with_reducible rfl))
                            try simp only [Act.put, List.setIfInBounds_toArray, List.set_cons_zero, List.set_cons_succ]
                            refine takeH 21 (d := 43) (v := ?_) rfl (by kernel_rfl) (by kernel_rfl) (by kernel_rfl) noPanic_none (by rfl) hHeld ?_ ?_
                            rotate_left
                            · (intro w hSw; (try dsimp only at hSw); go_simp; try (with_reducible rfl))
                            try simp only [Act.put, List.setIfInBounds_toArray, List.set_cons_zero, List.set_cons_succ]
                            refine takeH 23 (d := 45) (v := ?_) rfl (by kernel_rfl) (by kernel_rfl) (by kernel_rfl) noPanic_none (by rfl) hHeld ?_ ?_
                            rotate_left
                            · (intro w hSw; (try dsimp only at hSw); go_simp; try (with_reducible rfl))
                            try simp only [Act.put, List.setIfInBounds_toArray, List.set_cons_zero, List.set_cons_succ]
                            refine takeH 24 (d := 46) (v := ?_) rfl (by kernel_rfl) (by kernel_rfl) (by kernel_rfl) noPanic_none (by rfl) hHeld ?_ ?_
                            rotate_left
                            · (intro w hSw; (try dsimp only at hSw); go_simp; try (with_reducible rfl))
                            try simp only [Act.put, List.setIfInBounds_toArray, List.set_cons_zero, List.set_cons_succ]
                            refine wpAnyH_ready (rs := [22]) (by kernel_rfl) (by simp) ?_
                            refine stepH (i := 22) (d := 44) rfl (by rfl) (fun K hK => ?_) ?_
                            · go_simp
                              refine (a6 _).mono ?_
                              rintro e w11 ⟨k11, cap11, rfl, hk11, hb11⟩
                              have h11 := chain h10 hb11
                              have ek11 := hk11.1
                              have ck11 := hk11.2 w11 (.string x.space) x.space ⟨rfl, z6⟩ (Below.refl _ _)
                              rw [E7.out] at ck11
                              refine hK.out _ _ ?_ (fun hHeld => ?_)
                              · exact DC.out _ h11
                              clear hK K
                              try simp only [Act.put, List.setIfInBounds_toArray, List.set_cons_zero, List.set_cons_succ]
                              refine wpAnyH_ready (rs := [25]) (by kernel_rfl) (by simp) ?_
                              refine stepH (i := 25) (d := 47) rfl (by rfl) (fun K hK => ?_) ?_
                              · go_simp
                                refine ck11.mono ?_
                                rintro e w12 ⟨rfl, hb12⟩
                                have h12 := chain h11 hb12
                                refine hK.out _ _ ?_ (fun hHeld => ?_)
                                · exact DC.out _ h12
                                clear hK K
                                try simp only [Act.put, List.setIfInBounds_toArray, List.set_cons_zero, List.set_cons_succ]
                                refine takeH 26 (d := 48) (v := ?_) rfl (by kernel_rfl) (by kernel_rfl) (by kernel_rfl) noPanic_none (by rfl) hHeld ?_ ?_
                                rotate_left
                                · (intro w hSw; (try dsimp only at hSw); go_simp; try (with_reducible rfl))
                                try simp only [Act.put, List.setIfInBounds_toArray, List.set_cons_zero, List.set_cons_succ]
                                refine takeH 27 (d := 2) (v := ?_) rfl (by kernel_rfl) (by kernel_rfl) (by kernel_rfl) noPanic_none (by rfl) hHeld ?_ ?_
                                rotate_left
                                · (intro w hSw; (try dsimp only at hSw); go_simp; try (with_reducible rfl))
                                try simp only [Act.put, List.setIfInBounds_toArray, List.set_cons_zero, List.set_cons_succ]
                                refine wpAnyH_done (by kernel_rfl) ?_ _
                                refine NoPanic.normal ?_
                                go_wp2
                                go_ret
                                exact ⟨ret_bool (by rw [H2.out]; rfl), chain b0 h12⟩
                              exact AllReadyH.nil
                            exact AllReadyH.nil
                          exact AllReadyH.nil
                        exact AllReadyH.nil
                      exact AllReadyH.nil
                    exact AllReadyH.nil
                  exact AllReadyH.nil
                exact AllReadyH.nil
              exact AllReadyH.nil
end Go.Proofs.YthflpgeonllgdaaDoor.rul
