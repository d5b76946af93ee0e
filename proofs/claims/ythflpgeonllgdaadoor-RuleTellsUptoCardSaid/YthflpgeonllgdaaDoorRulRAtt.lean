/- Layer 8: of the document: Attr. -/
import Derived.Test.YthflpgeonllgdaaDoorRulRMay
import Derived.Test.YthflpgeonllgdaaDoorRulAtt
namespace Go.Proofs.YthflpgeonllgdaaDoor.rul
open Go.RowKit Go.Proofs.YthflpgeonllgdaaDoor.rep Go.Proofs.YthflpgeonllgdaaDoor.lab

theorem app_empty (a b : ByteArray) : (a ++ b).toList.isEmpty = (a.toList.isEmpty && b.toList.isEmpty) := by
  rw [ByteArray.toList_eq, ByteArray.toList_eq, ByteArray.toList_eq]
  rw [ByteArray.data_append, Array.toList_append]
  cases a.data.toList <;> rfl
set_option maxHeartbeats 2000000 in
set_option maxRecDepth 100000 in
theorem rAttr_any (x : Ak) (hx : akOk 1048576 x) (w : World) :
    Calls Tryd.prog 15 #[.agg #[.string x.verb, .string x.group, .string x.resource, .string x.part, .string x.name, .string x.space, .string x.path]] w fun e w' => e = .returned (.bool (attrB x)) ∧ Below w.heap.size w w' := by
  obtain ⟨z1, z2, z3, z4, z5, z6, z7⟩ := hx
  have b0 := below_new w (.cells #[.string x.verb, .string x.group, .string x.resource, .string x.part, .string x.name, .string x.space, .string x.path] 26)
  have DC := Lib.hid (show ∀ W, Below (w.alloc (.cells #[.string x.verb, .string x.group, .string x.resource, .string x.part, .string x.name, .string x.space, .string x.path] 26)).heap.size (w.alloc (.cells #[.string x.verb, .string x.group, .string x.resource, .string x.part, .string x.name, .string x.space, .string x.path] 26)) W → W.cell? ⟨w.heap.size, 0, none⟩ = some (.string x.verb) ∧ W.cell? ⟨w.heap.size, 1, none⟩ = some (.string x.group) ∧ W.cell? ⟨w.heap.size, 2, none⟩ = some (.string x.resource) ∧ W.cell? ⟨w.heap.size, 3, none⟩ = some (.string x.part) ∧ W.cell? ⟨w.heap.size, 4, none⟩ = some (.string x.name) ∧ W.cell? ⟨w.heap.size, 5, none⟩ = some (.string x.space) ∧ W.cell? ⟨w.heap.size, 6, none⟩ = some (.string x.path) from fun W h => by
    refine ⟨?_, ?_, ?_, ?_, ?_, ?_, ?_⟩ <;> exact (h.cell (by show w.heap.size < _; simp)).trans (cell_new _ _ _ _))
  have cv := fun W => nam.rVerb_any x.verb (by unfold Go.maxLen; omega) W
  have cp := fun W => nam.rPath_any x.path (by unfold Go.maxLen; omega) W
  have c3 : ∀ W, Calls Tryd.prog 35 #[.string x.resource] W fun e w' => e = .returned (.bool (segX x.resource)) ∧ W = w' := fun W => nam.rSegment_any x.resource (by unfold Go.maxLen; omega) W
  have c4 : ∀ W, Calls Tryd.prog 35 #[.string x.part] W fun e w' => e = .returned (.bool (segX x.part)) ∧ W = w' := fun W => nam.rSegment_any x.part (by unfold Go.maxLen; omega) W
  have c5 : ∀ W, Calls Tryd.prog 35 #[.string x.name] W fun e w' => e = .returned (.bool (segX x.name)) ∧ W = w' := fun W => nam.rSegment_any x.name (by unfold Go.maxLen; omega) W
  have c6 : ∀ W, Calls Tryd.prog 33 #[.string x.group] W fun e w' => e = .returned (.bool (subX x.group)) ∧ Below W.heap.size W w' := fun W => nam.rSubdomain_any x.group (by omega) W
  have c7 : ∀ W, Calls Tryd.prog 43 #[.string x.space] W fun e w' => e = .returned (.bool (labX x.space)) ∧ W = w' := fun W => nam.rLabel_any x.space (by unfold Go.maxLen; omega) W
  have H := Lib.hid (show attrB x = (nam.verbB x.verb.data.toList && (if x.path.toList.isEmpty = true then segX x.resource && ((x.part.toList.isEmpty || segX x.part) && ((x.name.toList.isEmpty || segX x.name) && ((x.group.toList.isEmpty || subX x.group) && (x.space.toList.isEmpty || labX x.space)))) else nam.pathB x.path.data.toList && restE x)) by unfold attrB orNone; rw [empty_l, empty_l, empty_l, empty_l])
  have HR := Lib.hid (show restE x = (x.group ++ x.resource ++ x.part ++ x.name ++ x.space).toList.isEmpty by unfold restE; rw [app_empty, app_empty, app_empty, app_empty, Bool.and_assoc, Bool.and_assoc, Bool.and_assoc])
  generalize nam.verbB x.verb.data.toList = b1 at *
  generalize nam.pathB x.path.data.toList = b2 at *
  generalize segX x.resource = b3 at *
  generalize segX x.part = b4 at *
  generalize segX x.name = b5 at *
  generalize subX x.group = b6 at *
  generalize labX x.space = b7 at *
  obtain ⟨R, hR⟩ : ∃ R, attrB x = R := ⟨_, rfl⟩
  rw [hR] at H ⊢
  clear hR
  cases b1 with
  | false =>
    go_enter Tryd.func15, Tryd.ntmps15
    go_wp2_with fail
    generalize w.alloc (.cells #[.string x.verb, .string x.group, .string x.resource, .string x.part, .string x.name, .string x.space, .string x.path] 26) = w0 at *
    have h0 := Below.refl w0.heap.size w0
    obtain ⟨q0, q1, q2, q3, q4, q5, q6⟩ := DC.out _ h0
    refine (cv _).mono ?_
    rintro e w1 ⟨rfl, rfl⟩
    go_wp2
    go_ret
    exact ⟨ret_bool H.out.symm, chain b0 h0⟩
  | true =>
    cases e0 : x.path.toList.isEmpty with
    | false =>
      have H2 := Lib.hid (show R = (b2 && restE x) by rw [H.out, e0]; rfl)
      cases b2 with
      | false =>
        go_enter Tryd.func15, Tryd.ntmps15
        go_wp2_with fail
        generalize w.alloc (.cells #[.string x.verb, .string x.group, .string x.resource, .string x.part, .string x.name, .string x.space, .string x.path] 26) = w0 at *
        have h0 := Below.refl w0.heap.size w0
        obtain ⟨q0, q1, q2, q3, q4, q5, q6⟩ := DC.out _ h0
        refine (cv _).mono ?_
        rintro e w1 ⟨rfl, rfl⟩
        go_wp2_with fail
        refine (cp _).mono ?_
        rintro e w1 ⟨rfl, rfl⟩
        go_wp2
        go_ret
        exact ⟨ret_bool H2.out.symm, chain b0 h0⟩
      | true =>
        go_enter Tryd.func15, Tryd.ntmps15
        go_wp2_with fail
        generalize w.alloc (.cells #[.string x.verb, .string x.group, .string x.resource, .string x.part, .string x.name, .string x.space, .string x.path] 26) = w0 at *
        have h0 := Below.refl w0.heap.size w0
        obtain ⟨q0, q1, q2, q3, q4, q5, q6⟩ := DC.out _ h0
        refine (cv _).mono ?_
        rintro e w1 ⟨rfl, rfl⟩
        go_wp2_with fail
        refine (cp _).mono ?_
        rintro e w1 ⟨rfl, rfl⟩
        go_wp2
        go_ret
        exact ⟨ret_bool (by rw [H2.out, HR.out]; rfl), chain b0 h0⟩
    | true =>
      have H2 := Lib.hid (show R = (b3 && ((x.part.toList.isEmpty || b4) && ((x.name.toList.isEmpty || b5) && ((x.group.toList.isEmpty || b6) && (x.space.toList.isEmpty || b7))))) by rw [H.out, e0]; rfl)
      cases b3 with
      | false =>
        go_enter Tryd.func15, Tryd.ntmps15
        go_wp2_with fail
        generalize w.alloc (.cells #[.string x.verb, .string x.group, .string x.resource, .string x.part, .string x.name, .string x.space, .string x.path] 26) = w0 at *
        have h0 := Below.refl w0.heap.size w0
        obtain ⟨q0, q1, q2, q3, q4, q5, q6⟩ := DC.out _ h0
        refine (cv _).mono ?_
        rintro e w1 ⟨rfl, rfl⟩
        go_wp2_with fail
        refine (c3 _).mono ?_
        rintro e w1 ⟨rfl, rfl⟩
        go_wp2_with fail
        refine (c4 _).mono ?_
        rintro e w1 ⟨rfl, rfl⟩
        go_wp2_with fail
        refine (c5 _).mono ?_
        rintro e w1 ⟨rfl, rfl⟩
        go_wp2_with fail
        refine (c6 _).mono ?_
        rintro e w6 ⟨rfl, hb6⟩
        have h6 := chain h0 hb6
        clear q0 q1 q2 q3 q4 q5 q6
        obtain ⟨q0, q1, q2, q3, q4, q5, q6⟩ := DC.out _ h6
        go_wp2_with fail
        refine (c7 _).mono ?_
        rintro e w1 ⟨rfl, rfl⟩
        go_wp2
        go_ret
        exact ⟨ret_bool (by rw [H2.out]; rfl), chain b0 h6⟩
      | true =>
        cases e1 : x.part.toList.isEmpty with
        | true =>
          cases e2 : x.name.toList.isEmpty with
          | true =>
            cases e3 : x.group.toList.isEmpty with
            | true =>
              cases e4 : x.space.toList.isEmpty with
              | true =>
                go_enter Tryd.func15, Tryd.ntmps15
                go_wp2_with fail
                generalize w.alloc (.cells #[.string x.verb, .string x.group, .string x.resource, .string x.part, .string x.name, .string x.space, .string x.path] 26) = w0 at *
                have h0 := Below.refl w0.heap.size w0
                obtain ⟨q0, q1, q2, q3, q4, q5, q6⟩ := DC.out _ h0
                refine (cv _).mono ?_
                rintro e w1 ⟨rfl, rfl⟩
                go_wp2_with fail
                refine (c3 _).mono ?_
                rintro e w1 ⟨rfl, rfl⟩
                go_wp2_with fail
                refine (c4 _).mono ?_
                rintro e w1 ⟨rfl, rfl⟩
                go_wp2_with fail
                refine (c5 _).mono ?_
                rintro e w1 ⟨rfl, rfl⟩
                go_wp2_with fail
                refine (c6 _).mono ?_
                rintro e w6 ⟨rfl, hb6⟩
                have h6 := chain h0 hb6
                clear q0 q1 q2 q3 q4 q5 q6
                obtain ⟨q0, q1, q2, q3, q4, q5, q6⟩ := DC.out _ h6
                go_wp2_with fail
                refine (c7 _).mono ?_
                rintro e w1 ⟨rfl, rfl⟩
                go_wp2
                go_ret
                exact ⟨ret_bool (by rw [H2.out, e1, e2, e3, e4]; rfl), chain b0 h6⟩
              | false =>
                cases b7 with
                | false =>
                  go_enter Tryd.func15, Tryd.ntmps15
                  go_wp2_with fail
                  generalize w.alloc (.cells #[.string x.verb, .string x.group, .string x.resource, .string x.part, .string x.name, .string x.space, .string x.path] 26) = w0 at *
                  have h0 := Below.refl w0.heap.size w0
                  obtain ⟨q0, q1, q2, q3, q4, q5, q6⟩ := DC.out _ h0
                  refine (cv _).mono ?_
                  rintro e w1 ⟨rfl, rfl⟩
                  go_wp2_with fail
                  refine (c3 _).mono ?_
                  rintro e w1 ⟨rfl, rfl⟩
                  go_wp2_with fail
                  refine (c4 _).mono ?_
                  rintro e w1 ⟨rfl, rfl⟩
                  go_wp2_with fail
                  refine (c5 _).mono ?_
                  rintro e w1 ⟨rfl, rfl⟩
                  go_wp2_with fail
                  refine (c6 _).mono ?_
                  rintro e w6 ⟨rfl, hb6⟩
                  have h6 := chain h0 hb6
                  clear q0 q1 q2 q3 q4 q5 q6
                  obtain ⟨q0, q1, q2, q3, q4, q5, q6⟩ := DC.out _ h6
                  go_wp2_with fail
                  refine (c7 _).mono ?_
                  rintro e w1 ⟨rfl, rfl⟩
                  go_wp2
                  go_ret
                  exact ⟨ret_bool (by rw [H2.out, e1, e2, e3, e4]; rfl), chain b0 h6⟩
                | true =>
                  go_enter Tryd.func15, Tryd.ntmps15
                  go_wp2_with fail
                  generalize w.alloc (.cells #[.string x.verb, .string x.group, .string x.resource, .string x.part, .string x.name, .string x.space, .string x.path] 26) = w0 at *
                  have h0 := Below.refl w0.heap.size w0
                  obtain ⟨q0, q1, q2, q3, q4, q5, q6⟩ := DC.out _ h0
                  refine (cv _).mono ?_
                  rintro e w1 ⟨rfl, rfl⟩
                  go_wp2_with fail
                  refine (c3 _).mono ?_
                  rintro e w1 ⟨rfl, rfl⟩
                  go_wp2_with fail
                  refine (c4 _).mono ?_
                  rintro e w1 ⟨rfl, rfl⟩
                  go_wp2_with fail
                  refine (c5 _).mono ?_
                  rintro e w1 ⟨rfl, rfl⟩
                  go_wp2_with fail
                  refine (c6 _).mono ?_
                  rintro e w6 ⟨rfl, hb6⟩
                  have h6 := chain h0 hb6
                  clear q0 q1 q2 q3 q4 q5 q6
                  obtain ⟨q0, q1, q2, q3, q4, q5, q6⟩ := DC.out _ h6
                  go_wp2_with fail
                  refine (c7 _).mono ?_
                  rintro e w1 ⟨rfl, rfl⟩
                  go_wp2
                  go_ret
                  exact ⟨ret_bool (by rw [H2.out, e1, e2, e3, e4]; rfl), chain b0 h6⟩
            | false =>
              cases b6 with
              | false =>
                go_enter Tryd.func15, Tryd.ntmps15
                go_wp2_with fail
                generalize w.alloc (.cells #[.string x.verb, .string x.group, .string x.resource, .string x.part, .string x.name, .string x.space, .string x.path] 26) = w0 at *
                have h0 := Below.refl w0.heap.size w0
                obtain ⟨q0, q1, q2, q3, q4, q5, q6⟩ := DC.out _ h0
                refine (cv _).mono ?_
                rintro e w1 ⟨rfl, rfl⟩
                go_wp2_with fail
                refine (c3 _).mono ?_
                rintro e w1 ⟨rfl, rfl⟩
                go_wp2_with fail
                refine (c4 _).mono ?_
                rintro e w1 ⟨rfl, rfl⟩
                go_wp2_with fail
                refine (c5 _).mono ?_
                rintro e w1 ⟨rfl, rfl⟩
                go_wp2_with fail
                refine (c6 _).mono ?_
                rintro e w6 ⟨rfl, hb6⟩
                have h6 := chain h0 hb6
                clear q0 q1 q2 q3 q4 q5 q6
                obtain ⟨q0, q1, q2, q3, q4, q5, q6⟩ := DC.out _ h6
                go_wp2_with fail
                refine (c7 _).mono ?_
                rintro e w1 ⟨rfl, rfl⟩
                go_wp2
                go_ret
                exact ⟨ret_bool (by rw [H2.out, e1, e2, e3]; rfl), chain b0 h6⟩
              | true =>
                cases e4 : x.space.toList.isEmpty with
                | true =>
                  go_enter Tryd.func15, Tryd.ntmps15
                  go_wp2_with fail
                  generalize w.alloc (.cells #[.string x.verb, .string x.group, .string x.resource, .string x.part, .string x.name, .string x.space, .string x.path] 26) = w0 at *
                  have h0 := Below.refl w0.heap.size w0
                  obtain ⟨q0, q1, q2, q3, q4, q5, q6⟩ := DC.out _ h0
                  refine (cv _).mono ?_
                  rintro e w1 ⟨rfl, rfl⟩
                  go_wp2_with fail
                  refine (c3 _).mono ?_
                  rintro e w1 ⟨rfl, rfl⟩
                  go_wp2_with fail
                  refine (c4 _).mono ?_
                  rintro e w1 ⟨rfl, rfl⟩
                  go_wp2_with fail
                  refine (c5 _).mono ?_
                  rintro e w1 ⟨rfl, rfl⟩
                  go_wp2_with fail
                  refine (c6 _).mono ?_
                  rintro e w6 ⟨rfl, hb6⟩
                  have h6 := chain h0 hb6
                  clear q0 q1 q2 q3 q4 q5 q6
                  obtain ⟨q0, q1, q2, q3, q4, q5, q6⟩ := DC.out _ h6
                  go_wp2_with fail
                  refine (c7 _).mono ?_
                  rintro e w1 ⟨rfl, rfl⟩
                  go_wp2
                  go_ret
                  exact ⟨ret_bool (by rw [H2.out, e1, e2, e3, e4]; rfl), chain b0 h6⟩
                | false =>
                  cases b7 with
                  | false =>
                    go_enter Tryd.func15, Tryd.ntmps15
                    go_wp2_with fail
                    generalize w.alloc (.cells #[.string x.verb, .string x.group, .string x.resource, .string x.part, .string x.name, .string x.space, .string x.path] 26) = w0 at *
                    have h0 := Below.refl w0.heap.size w0
                    obtain ⟨q0, q1, q2, q3, q4, q5, q6⟩ := DC.out _ h0
                    refine (cv _).mono ?_
                    rintro e w1 ⟨rfl, rfl⟩
                    go_wp2_with fail
                    refine (c3 _).mono ?_
                    rintro e w1 ⟨rfl, rfl⟩
                    go_wp2_with fail
                    refine (c4 _).mono ?_
                    rintro e w1 ⟨rfl, rfl⟩
                    go_wp2_with fail
                    refine (c5 _).mono ?_
                    rintro e w1 ⟨rfl, rfl⟩
                    go_wp2_with fail
                    refine (c6 _).mono ?_
                    rintro e w6 ⟨rfl, hb6⟩
                    have h6 := chain h0 hb6
                    clear q0 q1 q2 q3 q4 q5 q6
                    obtain ⟨q0, q1, q2, q3, q4, q5, q6⟩ := DC.out _ h6
                    go_wp2_with fail
                    refine (c7 _).mono ?_
                    rintro e w1 ⟨rfl, rfl⟩
                    go_wp2
                    go_ret
                    exact ⟨ret_bool (by rw [H2.out, e1, e2, e3, e4]; rfl), chain b0 h6⟩
                  | true =>
                    go_enter Tryd.func15, Tryd.ntmps15
                    go_wp2_with fail
                    generalize w.alloc (.cells #[.string x.verb, .string x.group, .string x.resource, .string x.part, .string x.name, .string x.space, .string x.path] 26) = w0 at *
                    have h0 := Below.refl w0.heap.size w0
                    obtain ⟨q0, q1, q2, q3, q4, q5, q6⟩ := DC.out _ h0
                    refine (cv _).mono ?_
                    rintro e w1 ⟨rfl, rfl⟩
                    go_wp2_with fail
                    refine (c3 _).mono ?_
                    rintro e w1 ⟨rfl, rfl⟩
                    go_wp2_with fail
                    refine (c4 _).mono ?_
                    rintro e w1 ⟨rfl, rfl⟩
                    go_wp2_with fail
                    refine (c5 _).mono ?_
                    rintro e w1 ⟨rfl, rfl⟩
                    go_wp2_with fail
                    refine (c6 _).mono ?_
                    rintro e w6 ⟨rfl, hb6⟩
                    have h6 := chain h0 hb6
                    clear q0 q1 q2 q3 q4 q5 q6
                    obtain ⟨q0, q1, q2, q3, q4, q5, q6⟩ := DC.out _ h6
                    go_wp2_with fail
                    refine (c7 _).mono ?_
                    rintro e w1 ⟨rfl, rfl⟩
                    go_wp2
                    go_ret
                    exact ⟨ret_bool (by rw [H2.out, e1, e2, e3, e4]; rfl), chain b0 h6⟩
          | false =>
            cases b5 with
            | false =>
              go_enter Tryd.func15, Tryd.ntmps15
              go_wp2_with fail
              generalize w.alloc (.cells #[.string x.verb, .string x.group, .string x.resource, .string x.part, .string x.name, .string x.space, .string x.path] 26) = w0 at *
              have h0 := Below.refl w0.heap.size w0
              obtain ⟨q0, q1, q2, q3, q4, q5, q6⟩ := DC.out _ h0
              refine (cv _).mono ?_
              rintro e w1 ⟨rfl, rfl⟩
              go_wp2_with fail
              refine (c3 _).mono ?_
              rintro e w1 ⟨rfl, rfl⟩
              go_wp2_with fail
              refine (c4 _).mono ?_
              rintro e w1 ⟨rfl, rfl⟩
              go_wp2_with fail
              refine (c5 _).mono ?_
              rintro e w1 ⟨rfl, rfl⟩
              go_wp2_with fail
              refine (c6 _).mono ?_
              rintro e w6 ⟨rfl, hb6⟩
              have h6 := chain h0 hb6
              clear q0 q1 q2 q3 q4 q5 q6
              obtain ⟨q0, q1, q2, q3, q4, q5, q6⟩ := DC.out _ h6
              go_wp2_with fail
              refine (c7 _).mono ?_
              rintro e w1 ⟨rfl, rfl⟩
              go_wp2
              go_ret
              exact ⟨ret_bool (by rw [H2.out, e1, e2]; rfl), chain b0 h6⟩
            | true =>
              cases e3 : x.group.toList.isEmpty with
              | true =>
                cases e4 : x.space.toList.isEmpty with
                | true =>
                  go_enter Tryd.func15, Tryd.ntmps15
                  go_wp2_with fail
                  generalize w.alloc (.cells #[.string x.verb, .string x.group, .string x.resource, .string x.part, .string x.name, .string x.space, .string x.path] 26) = w0 at *
                  have h0 := Below.refl w0.heap.size w0
                  obtain ⟨q0, q1, q2, q3, q4, q5, q6⟩ := DC.out _ h0
                  refine (cv _).mono ?_
                  rintro e w1 ⟨rfl, rfl⟩
                  go_wp2_with fail
                  refine (c3 _).mono ?_
                  rintro e w1 ⟨rfl, rfl⟩
                  go_wp2_with fail
                  refine (c4 _).mono ?_
                  rintro e w1 ⟨rfl, rfl⟩
                  go_wp2_with fail
                  refine (c5 _).mono ?_
                  rintro e w1 ⟨rfl, rfl⟩
                  go_wp2_with fail
                  refine (c6 _).mono ?_
                  rintro e w6 ⟨rfl, hb6⟩
                  have h6 := chain h0 hb6
                  clear q0 q1 q2 q3 q4 q5 q6
                  obtain ⟨q0, q1, q2, q3, q4, q5, q6⟩ := DC.out _ h6
                  go_wp2_with fail
                  refine (c7 _).mono ?_
                  rintro e w1 ⟨rfl, rfl⟩
                  go_wp2
                  go_ret
                  exact ⟨ret_bool (by rw [H2.out, e1, e2, e3, e4]; rfl), chain b0 h6⟩
                | false =>
                  cases b7 with
                  | false =>
                    go_enter Tryd.func15, Tryd.ntmps15
                    go_wp2_with fail
                    generalize w.alloc (.cells #[.string x.verb, .string x.group, .string x.resource, .string x.part, .string x.name, .string x.space, .string x.path] 26) = w0 at *
                    have h0 := Below.refl w0.heap.size w0
                    obtain ⟨q0, q1, q2, q3, q4, q5, q6⟩ := DC.out _ h0
                    refine (cv _).mono ?_
                    rintro e w1 ⟨rfl, rfl⟩
                    go_wp2_with fail
                    refine (c3 _).mono ?_
                    rintro e w1 ⟨rfl, rfl⟩
                    go_wp2_with fail
                    refine (c4 _).mono ?_
                    rintro e w1 ⟨rfl, rfl⟩
                    go_wp2_with fail
                    refine (c5 _).mono ?_
                    rintro e w1 ⟨rfl, rfl⟩
                    go_wp2_with fail
                    refine (c6 _).mono ?_
                    rintro e w6 ⟨rfl, hb6⟩
                    have h6 := chain h0 hb6
                    clear q0 q1 q2 q3 q4 q5 q6
                    obtain ⟨q0, q1, q2, q3, q4, q5, q6⟩ := DC.out _ h6
                    go_wp2_with fail
                    refine (c7 _).mono ?_
                    rintro e w1 ⟨rfl, rfl⟩
                    go_wp2
                    go_ret
                    exact ⟨ret_bool (by rw [H2.out, e1, e2, e3, e4]; rfl), chain b0 h6⟩
                  | true =>
                    go_enter Tryd.func15, Tryd.ntmps15
                    go_wp2_with fail
                    generalize w.alloc (.cells #[.string x.verb, .string x.group, .string x.resource, .string x.part, .string x.name, .string x.space, .string x.path] 26) = w0 at *
                    have h0 := Below.refl w0.heap.size w0
                    obtain ⟨q0, q1, q2, q3, q4, q5, q6⟩ := DC.out _ h0
                    refine (cv _).mono ?_
                    rintro e w1 ⟨rfl, rfl⟩
                    go_wp2_with fail
                    refine (c3 _).mono ?_
                    rintro e w1 ⟨rfl, rfl⟩
                    go_wp2_with fail
                    refine (c4 _).mono ?_
                    rintro e w1 ⟨rfl, rfl⟩
                    go_wp2_with fail
                    refine (c5 _).mono ?_
                    rintro e w1 ⟨rfl, rfl⟩
                    go_wp2_with fail
                    refine (c6 _).mono ?_
                    rintro e w6 ⟨rfl, hb6⟩
                    have h6 := chain h0 hb6
                    clear q0 q1 q2 q3 q4 q5 q6
                    obtain ⟨q0, q1, q2, q3, q4, q5, q6⟩ := DC.out _ h6
                    go_wp2_with fail
                    refine (c7 _).mono ?_
                    rintro e w1 ⟨rfl, rfl⟩
                    go_wp2
                    go_ret
                    exact ⟨ret_bool (by rw [H2.out, e1, e2, e3, e4]; rfl), chain b0 h6⟩
              | false =>
                cases b6 with
                | false =>
                  go_enter Tryd.func15, Tryd.ntmps15
                  go_wp2_with fail
                  generalize w.alloc (.cells #[.string x.verb, .string x.group, .string x.resource, .string x.part, .string x.name, .string x.space, .string x.path] 26) = w0 at *
                  have h0 := Below.refl w0.heap.size w0
                  obtain ⟨q0, q1, q2, q3, q4, q5, q6⟩ := DC.out _ h0
                  refine (cv _).mono ?_
                  rintro e w1 ⟨rfl, rfl⟩
                  go_wp2_with fail
                  refine (c3 _).mono ?_
                  rintro e w1 ⟨rfl, rfl⟩
                  go_wp2_with fail
                  refine (c4 _).mono ?_
                  rintro e w1 ⟨rfl, rfl⟩
                  go_wp2_with fail
                  refine (c5 _).mono ?_
                  rintro e w1 ⟨rfl, rfl⟩
                  go_wp2_with fail
                  refine (c6 _).mono ?_
                  rintro e w6 ⟨rfl, hb6⟩
                  have h6 := chain h0 hb6
                  clear q0 q1 q2 q3 q4 q5 q6
                  obtain ⟨q0, q1, q2, q3, q4, q5, q6⟩ := DC.out _ h6
                  go_wp2_with fail
                  refine (c7 _).mono ?_
                  rintro e w1 ⟨rfl, rfl⟩
                  go_wp2
                  go_ret
                  exact ⟨ret_bool (by rw [H2.out, e1, e2, e3]; rfl), chain b0 h6⟩
                | true =>
                  cases e4 : x.space.toList.isEmpty with
                  | true =>
                    go_enter Tryd.func15, Tryd.ntmps15
                    go_wp2_with fail
                    generalize w.alloc (.cells #[.string x.verb, .string x.group, .string x.resource, .string x.part, .string x.name, .string x.space, .string x.path] 26) = w0 at *
                    have h0 := Below.refl w0.heap.size w0
                    obtain ⟨q0, q1, q2, q3, q4, q5, q6⟩ := DC.out _ h0
                    refine (cv _).mono ?_
                    rintro e w1 ⟨rfl, rfl⟩
                    go_wp2_with fail
                    refine (c3 _).mono ?_
                    rintro e w1 ⟨rfl, rfl⟩
                    go_wp2_with fail
                    refine (c4 _).mono ?_
                    rintro e w1 ⟨rfl, rfl⟩
                    go_wp2_with fail
                    refine (c5 _).mono ?_
                    rintro e w1 ⟨rfl, rfl⟩
                    go_wp2_with fail
                    refine (c6 _).mono ?_
                    rintro e w6 ⟨rfl, hb6⟩
                    have h6 := chain h0 hb6
                    clear q0 q1 q2 q3 q4 q5 q6
                    obtain ⟨q0, q1, q2, q3, q4, q5, q6⟩ := DC.out _ h6
                    go_wp2_with fail
                    refine (c7 _).mono ?_
                    rintro e w1 ⟨rfl, rfl⟩
                    go_wp2
                    go_ret
                    exact ⟨ret_bool (by rw [H2.out, e1, e2, e3, e4]; rfl), chain b0 h6⟩
                  | false =>
                    cases b7 with
                    | false =>
                      go_enter Tryd.func15, Tryd.ntmps15
                      go_wp2_with fail
                      generalize w.alloc (.cells #[.string x.verb, .string x.group, .string x.resource, .string x.part, .string x.name, .string x.space, .string x.path] 26) = w0 at *
                      have h0 := Below.refl w0.heap.size w0
                      obtain ⟨q0, q1, q2, q3, q4, q5, q6⟩ := DC.out _ h0
                      refine (cv _).mono ?_
                      rintro e w1 ⟨rfl, rfl⟩
                      go_wp2_with fail
                      refine (c3 _).mono ?_
                      rintro e w1 ⟨rfl, rfl⟩
                      go_wp2_with fail
                      refine (c4 _).mono ?_
                      rintro e w1 ⟨rfl, rfl⟩
                      go_wp2_with fail
                      refine (c5 _).mono ?_
                      rintro e w1 ⟨rfl, rfl⟩
                      go_wp2_with fail
                      refine (c6 _).mono ?_
                      rintro e w6 ⟨rfl, hb6⟩
                      have h6 := chain h0 hb6
                      clear q0 q1 q2 q3 q4 q5 q6
                      obtain ⟨q0, q1, q2, q3, q4, q5, q6⟩ := DC.out _ h6
                      go_wp2_with fail
                      refine (c7 _).mono ?_
                      rintro e w1 ⟨rfl, rfl⟩
                      go_wp2
                      go_ret
                      exact ⟨ret_bool (by rw [H2.out, e1, e2, e3, e4]; rfl), chain b0 h6⟩
                    | true =>
                      go_enter Tryd.func15, Tryd.ntmps15
                      go_wp2_with fail
                      generalize w.alloc (.cells #[.string x.verb, .string x.group, .string x.resource, .string x.part, .string x.name, .string x.space, .string x.path] 26) = w0 at *
                      have h0 := Below.refl w0.heap.size w0
                      obtain ⟨q0, q1, q2, q3, q4, q5, q6⟩ := DC.out _ h0
                      refine (cv _).mono ?_
                      rintro e w1 ⟨rfl, rfl⟩
                      go_wp2_with fail
                      refine (c3 _).mono ?_
                      rintro e w1 ⟨rfl, rfl⟩
                      go_wp2_with fail
                      refine (c4 _).mono ?_
                      rintro e w1 ⟨rfl, rfl⟩
                      go_wp2_with fail
                      refine (c5 _).mono ?_
                      rintro e w1 ⟨rfl, rfl⟩
                      go_wp2_with fail
                      refine (c6 _).mono ?_
                      rintro e w6 ⟨rfl, hb6⟩
                      have h6 := chain h0 hb6
                      clear q0 q1 q2 q3 q4 q5 q6
                      obtain ⟨q0, q1, q2, q3, q4, q5, q6⟩ := DC.out _ h6
                      go_wp2_with fail
                      refine (c7 _).mono ?_
                      rintro e w1 ⟨rfl, rfl⟩
                      go_wp2
                      go_ret
                      exact ⟨ret_bool (by rw [H2.out, e1, e2, e3, e4]; rfl), chain b0 h6⟩
        | false =>
          cases b4 with
          | false =>
            go_enter Tryd.func15, Tryd.ntmps15
            go_wp2_with fail
            generalize w.alloc (.cells #[.string x.verb, .string x.group, .string x.resource, .string x.part, .string x.name, .string x.space, .string x.path] 26) = w0 at *
            have h0 := Below.refl w0.heap.size w0
            obtain ⟨q0, q1, q2, q3, q4, q5, q6⟩ := DC.out _ h0
            refine (cv _).mono ?_
            rintro e w1 ⟨rfl, rfl⟩
            go_wp2_with fail
            refine (c3 _).mono ?_
            rintro e w1 ⟨rfl, rfl⟩
            go_wp2_with fail
            refine (c4 _).mono ?_
            rintro e w1 ⟨rfl, rfl⟩
            go_wp2_with fail
            refine (c5 _).mono ?_
            rintro e w1 ⟨rfl, rfl⟩
            go_wp2_with fail
            refine (c6 _).mono ?_
            rintro e w6 ⟨rfl, hb6⟩
            have h6 := chain h0 hb6
            clear q0 q1 q2 q3 q4 q5 q6
            obtain ⟨q0, q1, q2, q3, q4, q5, q6⟩ := DC.out _ h6
            go_wp2_with fail
            refine (c7 _).mono ?_
            rintro e w1 ⟨rfl, rfl⟩
            go_wp2
            go_ret
            exact ⟨ret_bool (by rw [H2.out, e1]; rfl), chain b0 h6⟩
          | true =>
            cases e2 : x.name.toList.isEmpty with
            | true =>
              cases e3 : x.group.toList.isEmpty with
              | true =>
                cases e4 : x.space.toList.isEmpty with
                | true =>
                  go_enter Tryd.func15, Tryd.ntmps15
                  go_wp2_with fail
                  generalize w.alloc (.cells #[.string x.verb, .string x.group, .string x.resource, .string x.part, .string x.name, .string x.space, .string x.path] 26) = w0 at *
                  have h0 := Below.refl w0.heap.size w0
                  obtain ⟨q0, q1, q2, q3, q4, q5, q6⟩ := DC.out _ h0
                  refine (cv _).mono ?_
                  rintro e w1 ⟨rfl, rfl⟩
                  go_wp2_with fail
                  refine (c3 _).mono ?_
                  rintro e w1 ⟨rfl, rfl⟩
                  go_wp2_with fail
                  refine (c4 _).mono ?_
                  rintro e w1 ⟨rfl, rfl⟩
                  go_wp2_with fail
                  refine (c5 _).mono ?_
                  rintro e w1 ⟨rfl, rfl⟩
                  go_wp2_with fail
                  refine (c6 _).mono ?_
                  rintro e w6 ⟨rfl, hb6⟩
                  have h6 := chain h0 hb6
                  clear q0 q1 q2 q3 q4 q5 q6
                  obtain ⟨q0, q1, q2, q3, q4, q5, q6⟩ := DC.out _ h6
                  go_wp2_with fail
                  refine (c7 _).mono ?_
                  rintro e w1 ⟨rfl, rfl⟩
                  go_wp2
                  go_ret
                  exact ⟨ret_bool (by rw [H2.out, e1, e2, e3, e4]; rfl), chain b0 h6⟩
                | false =>
                  cases b7 with
                  | false =>
                    go_enter Tryd.func15, Tryd.ntmps15
                    go_wp2_with fail
                    generalize w.alloc (.cells #[.string x.verb, .string x.group, .string x.resource, .string x.part, .string x.name, .string x.space, .string x.path] 26) = w0 at *
                    have h0 := Below.refl w0.heap.size w0
                    obtain ⟨q0, q1, q2, q3, q4, q5, q6⟩ := DC.out _ h0
                    refine (cv _).mono ?_
                    rintro e w1 ⟨rfl, rfl⟩
                    go_wp2_with fail
                    refine (c3 _).mono ?_
                    rintro e w1 ⟨rfl, rfl⟩
                    go_wp2_with fail
                    refine (c4 _).mono ?_
                    rintro e w1 ⟨rfl, rfl⟩
                    go_wp2_with fail
                    refine (c5 _).mono ?_
                    rintro e w1 ⟨rfl, rfl⟩
                    go_wp2_with fail
                    refine (c6 _).mono ?_
                    rintro e w6 ⟨rfl, hb6⟩
                    have h6 := chain h0 hb6
                    clear q0 q1 q2 q3 q4 q5 q6
                    obtain ⟨q0, q1, q2, q3, q4, q5, q6⟩ := DC.out _ h6
                    go_wp2_with fail
                    refine (c7 _).mono ?_
                    rintro e w1 ⟨rfl, rfl⟩
                    go_wp2
                    go_ret
                    exact ⟨ret_bool (by rw [H2.out, e1, e2, e3, e4]; rfl), chain b0 h6⟩
                  | true =>
                    go_enter Tryd.func15, Tryd.ntmps15
                    go_wp2_with fail
                    generalize w.alloc (.cells #[.string x.verb, .string x.group, .string x.resource, .string x.part, .string x.name, .string x.space, .string x.path] 26) = w0 at *
                    have h0 := Below.refl w0.heap.size w0
                    obtain ⟨q0, q1, q2, q3, q4, q5, q6⟩ := DC.out _ h0
                    refine (cv _).mono ?_
                    rintro e w1 ⟨rfl, rfl⟩
                    go_wp2_with fail
                    refine (c3 _).mono ?_
                    rintro e w1 ⟨rfl, rfl⟩
                    go_wp2_with fail
                    refine (c4 _).mono ?_
                    rintro e w1 ⟨rfl, rfl⟩
                    go_wp2_with fail
                    refine (c5 _).mono ?_
                    rintro e w1 ⟨rfl, rfl⟩
                    go_wp2_with fail
                    refine (c6 _).mono ?_
                    rintro e w6 ⟨rfl, hb6⟩
                    have h6 := chain h0 hb6
                    clear q0 q1 q2 q3 q4 q5 q6
                    obtain ⟨q0, q1, q2, q3, q4, q5, q6⟩ := DC.out _ h6
                    go_wp2_with fail
                    refine (c7 _).mono ?_
                    rintro e w1 ⟨rfl, rfl⟩
                    go_wp2
                    go_ret
                    exact ⟨ret_bool (by rw [H2.out, e1, e2, e3, e4]; rfl), chain b0 h6⟩
              | false =>
                cases b6 with
                | false =>
                  go_enter Tryd.func15, Tryd.ntmps15
                  go_wp2_with fail
                  generalize w.alloc (.cells #[.string x.verb, .string x.group, .string x.resource, .string x.part, .string x.name, .string x.space, .string x.path] 26) = w0 at *
                  have h0 := Below.refl w0.heap.size w0
                  obtain ⟨q0, q1, q2, q3, q4, q5, q6⟩ := DC.out _ h0
                  refine (cv _).mono ?_
                  rintro e w1 ⟨rfl, rfl⟩
                  go_wp2_with fail
                  refine (c3 _).mono ?_
                  rintro e w1 ⟨rfl, rfl⟩
                  go_wp2_with fail
                  refine (c4 _).mono ?_
                  rintro e w1 ⟨rfl, rfl⟩
                  go_wp2_with fail
                  refine (c5 _).mono ?_
                  rintro e w1 ⟨rfl, rfl⟩
                  go_wp2_with fail
                  refine (c6 _).mono ?_
                  rintro e w6 ⟨rfl, hb6⟩
                  have h6 := chain h0 hb6
                  clear q0 q1 q2 q3 q4 q5 q6
                  obtain ⟨q0, q1, q2, q3, q4, q5, q6⟩ := DC.out _ h6
                  go_wp2_with fail
                  refine (c7 _).mono ?_
                  rintro e w1 ⟨rfl, rfl⟩
                  go_wp2
                  go_ret
                  exact ⟨ret_bool (by rw [H2.out, e1, e2, e3]; rfl), chain b0 h6⟩
                | true =>
                  cases e4 : x.space.toList.isEmpty with
                  | true =>
                    go_enter Tryd.func15, Tryd.ntmps15
                    go_wp2_with fail
                    generalize w.alloc (.cells #[.string x.verb, .string x.group, .string x.resource, .string x.part, .string x.name, .string x.space, .string x.path] 26) = w0 at *
                    have h0 := Below.refl w0.heap.size w0
                    obtain ⟨q0, q1, q2, q3, q4, q5, q6⟩ := DC.out _ h0
                    refine (cv _).mono ?_
                    rintro e w1 ⟨rfl, rfl⟩
                    go_wp2_with fail
                    refine (c3 _).mono ?_
                    rintro e w1 ⟨rfl, rfl⟩
                    go_wp2_with fail
                    refine (c4 _).mono ?_
                    rintro e w1 ⟨rfl, rfl⟩
                    go_wp2_with fail
                    refine (c5 _).mono ?_
                    rintro e w1 ⟨rfl, rfl⟩
                    go_wp2_with fail
                    refine (c6 _).mono ?_
                    rintro e w6 ⟨rfl, hb6⟩
                    have h6 := chain h0 hb6
                    clear q0 q1 q2 q3 q4 q5 q6
                    obtain ⟨q0, q1, q2, q3, q4, q5, q6⟩ := DC.out _ h6
                    go_wp2_with fail
                    refine (c7 _).mono ?_
                    rintro e w1 ⟨rfl, rfl⟩
                    go_wp2
                    go_ret
                    exact ⟨ret_bool (by rw [H2.out, e1, e2, e3, e4]; rfl), chain b0 h6⟩
                  | false =>
                    cases b7 with
                    | false =>
                      go_enter Tryd.func15, Tryd.ntmps15
                      go_wp2_with fail
                      generalize w.alloc (.cells #[.string x.verb, .string x.group, .string x.resource, .string x.part, .string x.name, .string x.space, .string x.path] 26) = w0 at *
                      have h0 := Below.refl w0.heap.size w0
                      obtain ⟨q0, q1, q2, q3, q4, q5, q6⟩ := DC.out _ h0
                      refine (cv _).mono ?_
                      rintro e w1 ⟨rfl, rfl⟩
                      go_wp2_with fail
                      refine (c3 _).mono ?_
                      rintro e w1 ⟨rfl, rfl⟩
                      go_wp2_with fail
                      refine (c4 _).mono ?_
                      rintro e w1 ⟨rfl, rfl⟩
                      go_wp2_with fail
                      refine (c5 _).mono ?_
                      rintro e w1 ⟨rfl, rfl⟩
                      go_wp2_with fail
                      refine (c6 _).mono ?_
                      rintro e w6 ⟨rfl, hb6⟩
                      have h6 := chain h0 hb6
                      clear q0 q1 q2 q3 q4 q5 q6
                      obtain ⟨q0, q1, q2, q3, q4, q5, q6⟩ := DC.out _ h6
                      go_wp2_with fail
                      refine (c7 _).mono ?_
                      rintro e w1 ⟨rfl, rfl⟩
                      go_wp2
                      go_ret
                      exact ⟨ret_bool (by rw [H2.out, e1, e2, e3, e4]; rfl), chain b0 h6⟩
                    | true =>
                      go_enter Tryd.func15, Tryd.ntmps15
                      go_wp2_with fail
                      generalize w.alloc (.cells #[.string x.verb, .string x.group, .string x.resource, .string x.part, .string x.name, .string x.space, .string x.path] 26) = w0 at *
                      have h0 := Below.refl w0.heap.size w0
                      obtain ⟨q0, q1, q2, q3, q4, q5, q6⟩ := DC.out _ h0
                      refine (cv _).mono ?_
                      rintro e w1 ⟨rfl, rfl⟩
                      go_wp2_with fail
                      refine (c3 _).mono ?_
                      rintro e w1 ⟨rfl, rfl⟩
                      go_wp2_with fail
                      refine (c4 _).mono ?_
                      rintro e w1 ⟨rfl, rfl⟩
                      go_wp2_with fail
                      refine (c5 _).mono ?_
                      rintro e w1 ⟨rfl, rfl⟩
                      go_wp2_with fail
                      refine (c6 _).mono ?_
                      rintro e w6 ⟨rfl, hb6⟩
                      have h6 := chain h0 hb6
                      clear q0 q1 q2 q3 q4 q5 q6
                      obtain ⟨q0, q1, q2, q3, q4, q5, q6⟩ := DC.out _ h6
                      go_wp2_with fail
                      refine (c7 _).mono ?_
                      rintro e w1 ⟨rfl, rfl⟩
                      go_wp2
                      go_ret
                      exact ⟨ret_bool (by rw [H2.out, e1, e2, e3, e4]; rfl), chain b0 h6⟩
            | false =>
              cases b5 with
              | false =>
                go_enter Tryd.func15, Tryd.ntmps15
                go_wp2_with fail
                generalize w.alloc (.cells #[.string x.verb, .string x.group, .string x.resource, .string x.part, .string x.name, .string x.space, .string x.path] 26) = w0 at *
                have h0 := Below.refl w0.heap.size w0
                obtain ⟨q0, q1, q2, q3, q4, q5, q6⟩ := DC.out _ h0
                refine (cv _).mono ?_
                rintro e w1 ⟨rfl, rfl⟩
                go_wp2_with fail
                refine (c3 _).mono ?_
                rintro e w1 ⟨rfl, rfl⟩
                go_wp2_with fail
                refine (c4 _).mono ?_
                rintro e w1 ⟨rfl, rfl⟩
                go_wp2_with fail
                refine (c5 _).mono ?_
                rintro e w1 ⟨rfl, rfl⟩
                go_wp2_with fail
                refine (c6 _).mono ?_
                rintro e w6 ⟨rfl, hb6⟩
                have h6 := chain h0 hb6
                clear q0 q1 q2 q3 q4 q5 q6
                obtain ⟨q0, q1, q2, q3, q4, q5, q6⟩ := DC.out _ h6
                go_wp2_with fail
                refine (c7 _).mono ?_
                rintro e w1 ⟨rfl, rfl⟩
                go_wp2
                go_ret
                exact ⟨ret_bool (by rw [H2.out, e1, e2]; rfl), chain b0 h6⟩
              | true =>
                cases e3 : x.group.toList.isEmpty with
                | true =>
                  cases e4 : x.space.toList.isEmpty with
                  | true =>
                    go_enter Tryd.func15, Tryd.ntmps15
                    go_wp2_with fail
                    generalize w.alloc (.cells #[.string x.verb, .string x.group, .string x.resource, .string x.part, .string x.name, .string x.space, .string x.path] 26) = w0 at *
                    have h0 := Below.refl w0.heap.size w0
                    obtain ⟨q0, q1, q2, q3, q4, q5, q6⟩ := DC.out _ h0
                    refine (cv _).mono ?_
                    rintro e w1 ⟨rfl, rfl⟩
                    go_wp2_with fail
                    refine (c3 _).mono ?_
                    rintro e w1 ⟨rfl, rfl⟩
                    go_wp2_with fail
                    refine (c4 _).mono ?_
                    rintro e w1 ⟨rfl, rfl⟩
                    go_wp2_with fail
                    refine (c5 _).mono ?_
                    rintro e w1 ⟨rfl, rfl⟩
                    go_wp2_with fail
                    refine (c6 _).mono ?_
                    rintro e w6 ⟨rfl, hb6⟩
                    have h6 := chain h0 hb6
                    clear q0 q1 q2 q3 q4 q5 q6
                    obtain ⟨q0, q1, q2, q3, q4, q5, q6⟩ := DC.out _ h6
                    go_wp2_with fail
                    refine (c7 _).mono ?_
                    rintro e w1 ⟨rfl, rfl⟩
                    go_wp2
                    go_ret
                    exact ⟨ret_bool (by rw [H2.out, e1, e2, e3, e4]; rfl), chain b0 h6⟩
                  | false =>
                    cases b7 with
                    | false =>
                      go_enter Tryd.func15, Tryd.ntmps15
                      go_wp2_with fail
                      generalize w.alloc (.cells #[.string x.verb, .string x.group, .string x.resource, .string x.part, .string x.name, .string x.space, .string x.path] 26) = w0 at *
                      have h0 := Below.refl w0.heap.size w0
                      obtain ⟨q0, q1, q2, q3, q4, q5, q6⟩ := DC.out _ h0
                      refine (cv _).mono ?_
                      rintro e w1 ⟨rfl, rfl⟩
                      go_wp2_with fail
                      refine (c3 _).mono ?_
                      rintro e w1 ⟨rfl, rfl⟩
                      go_wp2_with fail
                      refine (c4 _).mono ?_
                      rintro e w1 ⟨rfl, rfl⟩
                      go_wp2_with fail
                      refine (c5 _).mono ?_
                      rintro e w1 ⟨rfl, rfl⟩
                      go_wp2_with fail
                      refine (c6 _).mono ?_
                      rintro e w6 ⟨rfl, hb6⟩
                      have h6 := chain h0 hb6
                      clear q0 q1 q2 q3 q4 q5 q6
                      obtain ⟨q0, q1, q2, q3, q4, q5, q6⟩ := DC.out _ h6
                      go_wp2_with fail
                      refine (c7 _).mono ?_
                      rintro e w1 ⟨rfl, rfl⟩
                      go_wp2
                      go_ret
                      exact ⟨ret_bool (by rw [H2.out, e1, e2, e3, e4]; rfl), chain b0 h6⟩
                    | true =>
                      go_enter Tryd.func15, Tryd.ntmps15
                      go_wp2_with fail
                      generalize w.alloc (.cells #[.string x.verb, .string x.group, .string x.resource, .string x.part, .string x.name, .string x.space, .string x.path] 26) = w0 at *
                      have h0 := Below.refl w0.heap.size w0
                      obtain ⟨q0, q1, q2, q3, q4, q5, q6⟩ := DC.out _ h0
                      refine (cv _).mono ?_
                      rintro e w1 ⟨rfl, rfl⟩
                      go_wp2_with fail
                      refine (c3 _).mono ?_
                      rintro e w1 ⟨rfl, rfl⟩
                      go_wp2_with fail
                      refine (c4 _).mono ?_
                      rintro e w1 ⟨rfl, rfl⟩
                      go_wp2_with fail
                      refine (c5 _).mono ?_
                      rintro e w1 ⟨rfl, rfl⟩
                      go_wp2_with fail
                      refine (c6 _).mono ?_
                      rintro e w6 ⟨rfl, hb6⟩
                      have h6 := chain h0 hb6
                      clear q0 q1 q2 q3 q4 q5 q6
                      obtain ⟨q0, q1, q2, q3, q4, q5, q6⟩ := DC.out _ h6
                      go_wp2_with fail
                      refine (c7 _).mono ?_
                      rintro e w1 ⟨rfl, rfl⟩
                      go_wp2
                      go_ret
                      exact ⟨ret_bool (by rw [H2.out, e1, e2, e3, e4]; rfl), chain b0 h6⟩
                | false =>
                  cases b6 with
                  | false =>
                    go_enter Tryd.func15, Tryd.ntmps15
                    go_wp2_with fail
                    generalize w.alloc (.cells #[.string x.verb, .string x.group, .string x.resource, .string x.part, .string x.name, .string x.space, .string x.path] 26) = w0 at *
                    have h0 := Below.refl w0.heap.size w0
                    obtain ⟨q0, q1, q2, q3, q4, q5, q6⟩ := DC.out _ h0
                    refine (cv _).mono ?_
                    rintro e w1 ⟨rfl, rfl⟩
                    go_wp2_with fail
                    refine (c3 _).mono ?_
                    rintro e w1 ⟨rfl, rfl⟩
                    go_wp2_with fail
                    refine (c4 _).mono ?_
                    rintro e w1 ⟨rfl, rfl⟩
                    go_wp2_with fail
                    refine (c5 _).mono ?_
                    rintro e w1 ⟨rfl, rfl⟩
                    go_wp2_with fail
                    refine (c6 _).mono ?_
                    rintro e w6 ⟨rfl, hb6⟩
                    have h6 := chain h0 hb6
                    clear q0 q1 q2 q3 q4 q5 q6
                    obtain ⟨q0, q1, q2, q3, q4, q5, q6⟩ := DC.out _ h6
                    go_wp2_with fail
                    refine (c7 _).mono ?_
                    rintro e w1 ⟨rfl, rfl⟩
                    go_wp2
                    go_ret
                    exact ⟨ret_bool (by rw [H2.out, e1, e2, e3]; rfl), chain b0 h6⟩
                  | true =>
                    cases e4 : x.space.toList.isEmpty with
                    | true =>
                      go_enter Tryd.func15, Tryd.ntmps15
                      go_wp2_with fail
                      generalize w.alloc (.cells #[.string x.verb, .string x.group, .string x.resource, .string x.part, .string x.name, .string x.space, .string x.path] 26) = w0 at *
                      have h0 := Below.refl w0.heap.size w0
                      obtain ⟨q0, q1, q2, q3, q4, q5, q6⟩ := DC.out _ h0
                      refine (cv _).mono ?_
                      rintro e w1 ⟨rfl, rfl⟩
                      go_wp2_with fail
                      refine (c3 _).mono ?_
                      rintro e w1 ⟨rfl, rfl⟩
                      go_wp2_with fail
                      refine (c4 _).mono ?_
                      rintro e w1 ⟨rfl, rfl⟩
                      go_wp2_with fail
                      refine (c5 _).mono ?_
                      rintro e w1 ⟨rfl, rfl⟩
                      go_wp2_with fail
                      refine (c6 _).mono ?_
                      rintro e w6 ⟨rfl, hb6⟩
                      have h6 := chain h0 hb6
                      clear q0 q1 q2 q3 q4 q5 q6
                      obtain ⟨q0, q1, q2, q3, q4, q5, q6⟩ := DC.out _ h6
                      go_wp2_with fail
                      refine (c7 _).mono ?_
                      rintro e w1 ⟨rfl, rfl⟩
                      go_wp2
                      go_ret
                      exact ⟨ret_bool (by rw [H2.out, e1, e2, e3, e4]; rfl), chain b0 h6⟩
                    | false =>
                      cases b7 with
                      | false =>
                        go_enter Tryd.func15, Tryd.ntmps15
                        go_wp2_with fail
                        generalize w.alloc (.cells #[.string x.verb, .string x.group, .string x.resource, .string x.part, .string x.name, .string x.space, .string x.path] 26) = w0 at *
                        have h0 := Below.refl w0.heap.size w0
                        obtain ⟨q0, q1, q2, q3, q4, q5, q6⟩ := DC.out _ h0
                        refine (cv _).mono ?_
                        rintro e w1 ⟨rfl, rfl⟩
                        go_wp2_with fail
                        refine (c3 _).mono ?_
                        rintro e w1 ⟨rfl, rfl⟩
                        go_wp2_with fail
                        refine (c4 _).mono ?_
                        rintro e w1 ⟨rfl, rfl⟩
                        go_wp2_with fail
                        refine (c5 _).mono ?_
                        rintro e w1 ⟨rfl, rfl⟩
                        go_wp2_with fail
                        refine (c6 _).mono ?_
                        rintro e w6 ⟨rfl, hb6⟩
                        have h6 := chain h0 hb6
                        clear q0 q1 q2 q3 q4 q5 q6
                        obtain ⟨q0, q1, q2, q3, q4, q5, q6⟩ := DC.out _ h6
                        go_wp2_with fail
                        refine (c7 _).mono ?_
                        rintro e w1 ⟨rfl, rfl⟩
                        go_wp2
                        go_ret
                        exact ⟨ret_bool (by rw [H2.out, e1, e2, e3, e4]; rfl), chain b0 h6⟩
                      | true =>
                        go_enter Tryd.func15, Tryd.ntmps15
                        go_wp2_with fail
                        generalize w.alloc (.cells #[.string x.verb, .string x.group, .string x.resource, .string x.part, .string x.name, .string x.space, .string x.path] 26) = w0 at *
                        have h0 := Below.refl w0.heap.size w0
                        obtain ⟨q0, q1, q2, q3, q4, q5, q6⟩ := DC.out _ h0
                        refine (cv _).mono ?_
                        rintro e w1 ⟨rfl, rfl⟩
                        go_wp2_with fail
                        refine (c3 _).mono ?_
                        rintro e w1 ⟨rfl, rfl⟩
                        go_wp2_with fail
                        refine (c4 _).mono ?_
                        rintro e w1 ⟨rfl, rfl⟩
                        go_wp2_with fail
                        refine (c5 _).mono ?_
                        rintro e w1 ⟨rfl, rfl⟩
                        go_wp2_with fail
                        refine (c6 _).mono ?_
                        rintro e w6 ⟨rfl, hb6⟩
                        have h6 := chain h0 hb6
                        clear q0 q1 q2 q3 q4 q5 q6
                        obtain ⟨q0, q1, q2, q3, q4, q5, q6⟩ := DC.out _ h6
                        go_wp2_with fail
                        refine (c7 _).mono ?_
                        rintro e w1 ⟨rfl, rfl⟩
                        go_wp2
                        go_ret
                        exact ⟨ret_bool (by rw [H2.out, e1, e2, e3, e4]; rfl), chain b0 h6⟩
end Go.Proofs.YthflpgeonllgdaaDoor.rul
