/- Layer 8: rule's Check, with ofResources and ofPaths. -/
import Derived.Test.YthflpgeonllgdaaDoorRulAsk
namespace Go.Proofs.YthflpgeonllgdaaDoor.rul
open Go.RowKit Go.Proofs.YthflpgeonllgdaaDoor.rep Go.Proofs.YthflpgeonllgdaaDoor.lab

def ofResB (r : Ru) : Bool := filledB r.groups && ((r.groups.all fun x => groupE x.data.toList) && (filledB r.resources && ((r.resources.all fun x => resE x.data.toList) && (decide ((r.names.length : Int) ≤ 16) && ((r.names.all fun x => nam.segB x.data.toList) && ((r.paths.length : Int) == 0))))))
def ofPathB (r : Ru) : Bool := filledB r.paths && ((r.paths.all fun x => pathE x.data.toList) && (((r.groups.length : Int) == 0) && (((r.resources.length : Int) == 0) && ((r.names.length : Int) == 0))))
def checkB (r : Ru) (paths : Bool) : Bool := filledB r.verbs && ((r.verbs.all fun x => verbE x.data.toList) && (ofResB r || (paths && ofPathB r)))
set_option maxHeartbeats 2000000 in
set_option maxRecDepth 100000 in
theorem ofResources_any (B : Nat) (hB : B ≤ 1048576) (r : Ru) (v g s n p : Value) (w : World) (hr : ruAt B w v g s n p r) (hm : nam.MaxL w) :
    Calls Tryd.prog 29 #[.agg #[v, g, s, n, p]] w fun e w' => e = .returned (.bool (ofResB r)) ∧ Below w.heap.size w w' := by
  obtain ⟨⟨va, vc, rfl, _, _, lv, hv⟩, ⟨ga, gc, rfl, _, _, lg, hg⟩, ⟨sa, sc, rfl, _, _, ls, hs⟩, ⟨na, nc, rfl, _, _, ln, hn⟩, ⟨pa, pc, rfl, _, _, lp, hp⟩⟩ := hr
  have b0 := below_new w (.cells #[.slice va r.verbs.length vc, .slice ga r.groups.length gc, .slice sa r.resources.length sc, .slice na r.names.length nc, .slice pa r.paths.length pc] 24)
  have RR := Lib.hid (show ∀ W, Below (w.alloc (.cells #[.slice va r.verbs.length vc, .slice ga r.groups.length gc, .slice sa r.resources.length sc, .slice na r.names.length nc, .slice pa r.paths.length pc] 24)).heap.size (w.alloc (.cells #[.slice va r.verbs.length vc, .slice ga r.groups.length gc, .slice sa r.resources.length sc, .slice na r.names.length nc, .slice pa r.paths.length pc] 24)) W → RowIn (text B) W va r.verbs ∧ RowIn (text B) W ga r.groups ∧ RowIn (text B) W sa r.resources ∧ RowIn (text B) W na r.names ∧ RowIn (text B) W pa r.paths from fun W h => ⟨hv.later (chain b0 h), hg.later (chain b0 h), hs.later (chain b0 h), hn.later (chain b0 h), hp.later (chain b0 h)⟩)
  have DC := Lib.hid (show ∀ W, Below (w.alloc (.cells #[.slice va r.verbs.length vc, .slice ga r.groups.length gc, .slice sa r.resources.length sc, .slice na r.names.length nc, .slice pa r.paths.length pc] 24)).heap.size (w.alloc (.cells #[.slice va r.verbs.length vc, .slice ga r.groups.length gc, .slice sa r.resources.length sc, .slice na r.names.length nc, .slice pa r.paths.length pc] 24)) W → W.cell? ⟨w.heap.size, 0, none⟩ = some (.slice va r.verbs.length vc) ∧ W.cell? ⟨w.heap.size, 1, none⟩ = some (.slice ga r.groups.length gc) ∧ W.cell? ⟨w.heap.size, 2, none⟩ = some (.slice sa r.resources.length sc) ∧ W.cell? ⟨w.heap.size, 3, none⟩ = some (.slice na r.names.length nc) ∧ W.cell? ⟨w.heap.size, 4, none⟩ = some (.slice pa r.paths.length pc) from fun W h => by
    refine ⟨?_, ?_, ?_, ?_, ?_⟩ <;> exact (h.cell (by show w.heap.size < _; simp)).trans (cell_new _ _ _ _))
  have HM := Lib.hid (show ∀ W, Below (w.alloc (.cells #[.slice va r.verbs.length vc, .slice ga r.groups.length gc, .slice sa r.resources.length sc, .slice na r.names.length nc, .slice pa r.paths.length pc] 24)).heap.size (w.alloc (.cells #[.slice va r.verbs.length vc, .slice ga r.groups.length gc, .slice sa r.resources.length sc, .slice na r.names.length nc, .slice pa r.paths.length pc] 24)) W → nam.MaxL W from fun W h => hm.later (chain b0 h))
  have H := Lib.hid (show ofResB r = (filledB r.groups && ((r.groups.all fun x => groupE x.data.toList) && (filledB r.resources && ((r.resources.all fun x => resE x.data.toList) && (decide ((r.names.length : Int) ≤ 16) && ((r.names.all fun x => nam.segB x.data.toList) && (((r.paths.length : Int) == 0)))))))) from rfl)
  have k0 := fun W => filled_any ga gc r.groups (by omega) W
  have k1 := fun W h hp => each_any B 53 #[] (fun x => groupE x.data.toList) ga gc r.groups (by omega) W h hp
  have k2 := fun W => filled_any sa sc r.resources (by omega) W
  have k3 := fun W h hp => each_any B 54 #[] (fun x => resE x.data.toList) sa sc r.resources (by omega) W h hp
  have k5 := fun W h hp => each_any B 38 #[] (fun x => nam.segB x.data.toList) na nc r.names (by omega) W h hp
  generalize filledB r.groups = c0 at *
  generalize (r.groups.all fun x => groupE x.data.toList) = c1 at *
  generalize filledB r.resources = c2 at *
  generalize (r.resources.all fun x => resE x.data.toList) = c3 at *
  generalize (r.names.all fun x => nam.segB x.data.toList) = c5 at *
  clear hv hg hs hn hp
  cases c0 with
  | false =>
    go_enter Tryd.func29, Tryd.ntmps29
    go_wp2_with fail
    generalize w.alloc (.cells #[.slice va r.verbs.length vc, .slice ga r.groups.length gc, .slice sa r.resources.length sc, .slice na r.names.length nc, .slice pa r.paths.length pc] 24) = w0 at *
    have h0 := Below.refl w0.heap.size w0
    obtain ⟨q0, q1, q2, q3, q4⟩ := DC.out _ h0
    refine (k0 _).mono ?_
    rintro e w1 ⟨rfl, rfl⟩
    go_wp2
    go_ret
    exact ⟨ret_bool (by rw [H.out]; rfl), chain b0 h0⟩
  | true =>
    cases c1 with
    | false =>
      go_enter Tryd.func29, Tryd.ntmps29
      go_wp2_with fail
      generalize w.alloc (.cells #[.slice va r.verbs.length vc, .slice ga r.groups.length gc, .slice sa r.resources.length sc, .slice na r.names.length nc, .slice pa r.paths.length pc] 24) = w0 at *
      have h0 := Below.refl w0.heap.size w0
      obtain ⟨q0, q1, q2, q3, q4⟩ := DC.out _ h0
      refine (k0 _).mono ?_
      rintro e w1 ⟨rfl, rfl⟩
      go_wp2_with fail
      refine (k1 _ ((RR.out _ h0).2.1) (ask_group B hB _ (HM.out _ h0))).mono ?_
      rintro e w2 ⟨rfl, hb1⟩
      have h2 := chain h0 hb1
      clear q0 q1 q2 q3 q4
      obtain ⟨q0, q1, q2, q3, q4⟩ := DC.out _ h2
      go_wp2
      go_ret
      exact ⟨ret_bool (by rw [H.out]; rfl), chain b0 h2⟩
    | true =>
      cases c2 with
      | false =>
        go_enter Tryd.func29, Tryd.ntmps29
        go_wp2_with fail
        generalize w.alloc (.cells #[.slice va r.verbs.length vc, .slice ga r.groups.length gc, .slice sa r.resources.length sc, .slice na r.names.length nc, .slice pa r.paths.length pc] 24) = w0 at *
        have h0 := Below.refl w0.heap.size w0
        obtain ⟨q0, q1, q2, q3, q4⟩ := DC.out _ h0
        refine (k0 _).mono ?_
        rintro e w1 ⟨rfl, rfl⟩
        go_wp2_with fail
        refine (k1 _ ((RR.out _ h0).2.1) (ask_group B hB _ (HM.out _ h0))).mono ?_
        rintro e w2 ⟨rfl, hb1⟩
        have h2 := chain h0 hb1
        clear q0 q1 q2 q3 q4
        obtain ⟨q0, q1, q2, q3, q4⟩ := DC.out _ h2
        go_wp2_with fail
        refine (k2 _).mono ?_
        rintro e w3 ⟨rfl, rfl⟩
        go_wp2
        go_ret
        exact ⟨ret_bool (by rw [H.out]; rfl), chain b0 h2⟩
      | true =>
        cases c3 with
        | false =>
          go_enter Tryd.func29, Tryd.ntmps29
          go_wp2_with fail
          generalize w.alloc (.cells #[.slice va r.verbs.length vc, .slice ga r.groups.length gc, .slice sa r.resources.length sc, .slice na r.names.length nc, .slice pa r.paths.length pc] 24) = w0 at *
          have h0 := Below.refl w0.heap.size w0
          obtain ⟨q0, q1, q2, q3, q4⟩ := DC.out _ h0
          refine (k0 _).mono ?_
          rintro e w1 ⟨rfl, rfl⟩
          go_wp2_with fail
          refine (k1 _ ((RR.out _ h0).2.1) (ask_group B hB _ (HM.out _ h0))).mono ?_
          rintro e w2 ⟨rfl, hb1⟩
          have h2 := chain h0 hb1
          clear q0 q1 q2 q3 q4
          obtain ⟨q0, q1, q2, q3, q4⟩ := DC.out _ h2
          go_wp2_with fail
          refine (k2 _).mono ?_
          rintro e w3 ⟨rfl, rfl⟩
          go_wp2_with fail
          refine (k3 _ ((RR.out _ h2).2.2.1) (ask_resource B hB _ (HM.out _ h2))).mono ?_
          rintro e w4 ⟨rfl, hb3⟩
          have h4 := chain h2 hb3
          clear q0 q1 q2 q3 q4
          obtain ⟨q0, q1, q2, q3, q4⟩ := DC.out _ h4
          go_wp2
          go_ret
          exact ⟨ret_bool (by rw [H.out]; rfl), chain b0 h4⟩
        | true =>
          by_cases e4 : (r.names.length : Int) ≤ 16
          case neg =>
            go_enter Tryd.func29, Tryd.ntmps29
            go_wp2_with fail
            generalize w.alloc (.cells #[.slice va r.verbs.length vc, .slice ga r.groups.length gc, .slice sa r.resources.length sc, .slice na r.names.length nc, .slice pa r.paths.length pc] 24) = w0 at *
            have h0 := Below.refl w0.heap.size w0
            obtain ⟨q0, q1, q2, q3, q4⟩ := DC.out _ h0
            refine (k0 _).mono ?_
            rintro e w1 ⟨rfl, rfl⟩
            go_wp2_with fail
            refine (k1 _ ((RR.out _ h0).2.1) (ask_group B hB _ (HM.out _ h0))).mono ?_
            rintro e w2 ⟨rfl, hb1⟩
            have h2 := chain h0 hb1
            clear q0 q1 q2 q3 q4
            obtain ⟨q0, q1, q2, q3, q4⟩ := DC.out _ h2
            go_wp2_with fail
            refine (k2 _).mono ?_
            rintro e w3 ⟨rfl, rfl⟩
            go_wp2_with fail
            refine (k3 _ ((RR.out _ h2).2.2.1) (ask_resource B hB _ (HM.out _ h2))).mono ?_
            rintro e w4 ⟨rfl, hb3⟩
            have h4 := chain h2 hb3
            clear q0 q1 q2 q3 q4
            obtain ⟨q0, q1, q2, q3, q4⟩ := DC.out _ h4
            go_wp2
            go_ret
            exact ⟨ret_bool (by rw [H.out, decide_eq_false (p := (r.names.length : Int) ≤ 16) (by omega)]; rfl), chain b0 h4⟩
          case pos =>
            cases c5 with
            | false =>
              go_enter Tryd.func29, Tryd.ntmps29
              go_wp2_with fail
              generalize w.alloc (.cells #[.slice va r.verbs.length vc, .slice ga r.groups.length gc, .slice sa r.resources.length sc, .slice na r.names.length nc, .slice pa r.paths.length pc] 24) = w0 at *
              have h0 := Below.refl w0.heap.size w0
              obtain ⟨q0, q1, q2, q3, q4⟩ := DC.out _ h0
              refine (k0 _).mono ?_
              rintro e w1 ⟨rfl, rfl⟩
              go_wp2_with fail
              refine (k1 _ ((RR.out _ h0).2.1) (ask_group B hB _ (HM.out _ h0))).mono ?_
              rintro e w2 ⟨rfl, hb1⟩
              have h2 := chain h0 hb1
              clear q0 q1 q2 q3 q4
              obtain ⟨q0, q1, q2, q3, q4⟩ := DC.out _ h2
              go_wp2_with fail
              refine (k2 _).mono ?_
              rintro e w3 ⟨rfl, rfl⟩
              go_wp2_with fail
              refine (k3 _ ((RR.out _ h2).2.2.1) (ask_resource B hB _ (HM.out _ h2))).mono ?_
              rintro e w4 ⟨rfl, hb3⟩
              have h4 := chain h2 hb3
              clear q0 q1 q2 q3 q4
              obtain ⟨q0, q1, q2, q3, q4⟩ := DC.out _ h4
              go_wp2_with fail
              refine (k5 _ ((RR.out _ h4).2.2.2.1) (ask_segment B hB _)).mono ?_
              rintro e w6 ⟨rfl, hb5⟩
              have h6 := chain h4 hb5
              clear q0 q1 q2 q3 q4
              obtain ⟨q0, q1, q2, q3, q4⟩ := DC.out _ h6
              go_wp2
              go_ret
              exact ⟨ret_bool (by rw [H.out, decide_eq_true e4]; rfl), chain b0 h6⟩
            | true =>
              cases e6 : ((r.paths.length : Int) == 0) with
              | false =>
                go_enter Tryd.func29, Tryd.ntmps29
                go_wp2_with fail
                generalize w.alloc (.cells #[.slice va r.verbs.length vc, .slice ga r.groups.length gc, .slice sa r.resources.length sc, .slice na r.names.length nc, .slice pa r.paths.length pc] 24) = w0 at *
                have h0 := Below.refl w0.heap.size w0
                obtain ⟨q0, q1, q2, q3, q4⟩ := DC.out _ h0
                refine (k0 _).mono ?_
                rintro e w1 ⟨rfl, rfl⟩
                go_wp2_with fail
                refine (k1 _ ((RR.out _ h0).2.1) (ask_group B hB _ (HM.out _ h0))).mono ?_
                rintro e w2 ⟨rfl, hb1⟩
                have h2 := chain h0 hb1
                clear q0 q1 q2 q3 q4
                obtain ⟨q0, q1, q2, q3, q4⟩ := DC.out _ h2
                go_wp2_with fail
                refine (k2 _).mono ?_
                rintro e w3 ⟨rfl, rfl⟩
                go_wp2_with fail
                refine (k3 _ ((RR.out _ h2).2.2.1) (ask_resource B hB _ (HM.out _ h2))).mono ?_
                rintro e w4 ⟨rfl, hb3⟩
                have h4 := chain h2 hb3
                clear q0 q1 q2 q3 q4
                obtain ⟨q0, q1, q2, q3, q4⟩ := DC.out _ h4
                go_wp2_with fail
                refine (k5 _ ((RR.out _ h4).2.2.2.1) (ask_segment B hB _)).mono ?_
                rintro e w6 ⟨rfl, hb5⟩
                have h6 := chain h4 hb5
                clear q0 q1 q2 q3 q4
                obtain ⟨q0, q1, q2, q3, q4⟩ := DC.out _ h6
                go_wp2
                go_ret
                exact ⟨ret_bool (by rw [H.out, decide_eq_true e4, e6]; rfl), chain b0 h6⟩
              | true =>
                go_enter Tryd.func29, Tryd.ntmps29
                go_wp2_with fail
                generalize w.alloc (.cells #[.slice va r.verbs.length vc, .slice ga r.groups.length gc, .slice sa r.resources.length sc, .slice na r.names.length nc, .slice pa r.paths.length pc] 24) = w0 at *
                have h0 := Below.refl w0.heap.size w0
                obtain ⟨q0, q1, q2, q3, q4⟩ := DC.out _ h0
                refine (k0 _).mono ?_
                rintro e w1 ⟨rfl, rfl⟩
                go_wp2_with fail
                refine (k1 _ ((RR.out _ h0).2.1) (ask_group B hB _ (HM.out _ h0))).mono ?_
                rintro e w2 ⟨rfl, hb1⟩
                have h2 := chain h0 hb1
                clear q0 q1 q2 q3 q4
                obtain ⟨q0, q1, q2, q3, q4⟩ := DC.out _ h2
                go_wp2_with fail
                refine (k2 _).mono ?_
                rintro e w3 ⟨rfl, rfl⟩
                go_wp2_with fail
                refine (k3 _ ((RR.out _ h2).2.2.1) (ask_resource B hB _ (HM.out _ h2))).mono ?_
                rintro e w4 ⟨rfl, hb3⟩
                have h4 := chain h2 hb3
                clear q0 q1 q2 q3 q4
                obtain ⟨q0, q1, q2, q3, q4⟩ := DC.out _ h4
                go_wp2_with fail
                refine (k5 _ ((RR.out _ h4).2.2.2.1) (ask_segment B hB _)).mono ?_
                rintro e w6 ⟨rfl, hb5⟩
                have h6 := chain h4 hb5
                clear q0 q1 q2 q3 q4
                obtain ⟨q0, q1, q2, q3, q4⟩ := DC.out _ h6
                go_wp2
                go_ret
                exact ⟨ret_bool (by rw [H.out, decide_eq_true e4, e6]; rfl), chain b0 h6⟩
set_option maxHeartbeats 2000000 in
set_option maxRecDepth 100000 in
theorem ofPaths_any (B : Nat) (hB : B ≤ 1048576) (r : Ru) (v g s n p : Value) (w : World) (hr : ruAt B w v g s n p r) (hm : nam.MaxL w) :
    Calls Tryd.prog 30 #[.agg #[v, g, s, n, p]] w fun e w' => e = .returned (.bool (ofPathB r)) ∧ Below w.heap.size w w' := by
  obtain ⟨⟨va, vc, rfl, _, _, lv, hv⟩, ⟨ga, gc, rfl, _, _, lg, hg⟩, ⟨sa, sc, rfl, _, _, ls, hs⟩, ⟨na, nc, rfl, _, _, ln, hn⟩, ⟨pa, pc, rfl, _, _, lp, hp⟩⟩ := hr
  have b0 := below_new w (.cells #[.slice va r.verbs.length vc, .slice ga r.groups.length gc, .slice sa r.resources.length sc, .slice na r.names.length nc, .slice pa r.paths.length pc] 24)
  have RR := Lib.hid (show ∀ W, Below (w.alloc (.cells #[.slice va r.verbs.length vc, .slice ga r.groups.length gc, .slice sa r.resources.length sc, .slice na r.names.length nc, .slice pa r.paths.length pc] 24)).heap.size (w.alloc (.cells #[.slice va r.verbs.length vc, .slice ga r.groups.length gc, .slice sa r.resources.length sc, .slice na r.names.length nc, .slice pa r.paths.length pc] 24)) W → RowIn (text B) W va r.verbs ∧ RowIn (text B) W ga r.groups ∧ RowIn (text B) W sa r.resources ∧ RowIn (text B) W na r.names ∧ RowIn (text B) W pa r.paths from fun W h => ⟨hv.later (chain b0 h), hg.later (chain b0 h), hs.later (chain b0 h), hn.later (chain b0 h), hp.later (chain b0 h)⟩)
  have DC := Lib.hid (show ∀ W, Below (w.alloc (.cells #[.slice va r.verbs.length vc, .slice ga r.groups.length gc, .slice sa r.resources.length sc, .slice na r.names.length nc, .slice pa r.paths.length pc] 24)).heap.size (w.alloc (.cells #[.slice va r.verbs.length vc, .slice ga r.groups.length gc, .slice sa r.resources.length sc, .slice na r.names.length nc, .slice pa r.paths.length pc] 24)) W → W.cell? ⟨w.heap.size, 0, none⟩ = some (.slice va r.verbs.length vc) ∧ W.cell? ⟨w.heap.size, 1, none⟩ = some (.slice ga r.groups.length gc) ∧ W.cell? ⟨w.heap.size, 2, none⟩ = some (.slice sa r.resources.length sc) ∧ W.cell? ⟨w.heap.size, 3, none⟩ = some (.slice na r.names.length nc) ∧ W.cell? ⟨w.heap.size, 4, none⟩ = some (.slice pa r.paths.length pc) from fun W h => by
    refine ⟨?_, ?_, ?_, ?_, ?_⟩ <;> exact (h.cell (by show w.heap.size < _; simp)).trans (cell_new _ _ _ _))
  have HM := Lib.hid (show ∀ W, Below (w.alloc (.cells #[.slice va r.verbs.length vc, .slice ga r.groups.length gc, .slice sa r.resources.length sc, .slice na r.names.length nc, .slice pa r.paths.length pc] 24)).heap.size (w.alloc (.cells #[.slice va r.verbs.length vc, .slice ga r.groups.length gc, .slice sa r.resources.length sc, .slice na r.names.length nc, .slice pa r.paths.length pc] 24)) W → nam.MaxL W from fun W h => hm.later (chain b0 h))
  have H := Lib.hid (show ofPathB r = (filledB r.paths && ((r.paths.all fun x => pathE x.data.toList) && (((r.groups.length : Int) == 0) && (((r.resources.length : Int) == 0) && (((r.names.length : Int) == 0)))))) from rfl)
  have k0 := fun W => filled_any pa pc r.paths (by omega) W
  have k1 := fun W h hp => each_any B 55 #[] (fun x => pathE x.data.toList) pa pc r.paths (by omega) W h hp
  generalize filledB r.paths = c0 at *
  generalize (r.paths.all fun x => pathE x.data.toList) = c1 at *
  clear hv hg hs hn hp
  cases c0 with
  | false =>
    go_enter Tryd.func30, Tryd.ntmps30
    go_wp2_with fail
    generalize w.alloc (.cells #[.slice va r.verbs.length vc, .slice ga r.groups.length gc, .slice sa r.resources.length sc, .slice na r.names.length nc, .slice pa r.paths.length pc] 24) = w0 at *
    have h0 := Below.refl w0.heap.size w0
    obtain ⟨q0, q1, q2, q3, q4⟩ := DC.out _ h0
    refine (k0 _).mono ?_
    rintro e w1 ⟨rfl, rfl⟩
    go_wp2
    go_ret
    exact ⟨ret_bool (by rw [H.out]; rfl), chain b0 h0⟩
  | true =>
    cases c1 with
    | false =>
      go_enter Tryd.func30, Tryd.ntmps30
      go_wp2_with fail
      generalize w.alloc (.cells #[.slice va r.verbs.length vc, .slice ga r.groups.length gc, .slice sa r.resources.length sc, .slice na r.names.length nc, .slice pa r.paths.length pc] 24) = w0 at *
      have h0 := Below.refl w0.heap.size w0
      obtain ⟨q0, q1, q2, q3, q4⟩ := DC.out _ h0
      refine (k0 _).mono ?_
      rintro e w1 ⟨rfl, rfl⟩
      go_wp2_with fail
      refine (k1 _ ((RR.out _ h0).2.2.2.2) (ask_path B hB _)).mono ?_
      rintro e w2 ⟨rfl, hb1⟩
      have h2 := chain h0 hb1
      clear q0 q1 q2 q3 q4
      obtain ⟨q0, q1, q2, q3, q4⟩ := DC.out _ h2
      go_wp2
      go_ret
      exact ⟨ret_bool (by rw [H.out]; rfl), chain b0 h2⟩
    | true =>
      cases e2 : ((r.groups.length : Int) == 0) with
      | false =>
        go_enter Tryd.func30, Tryd.ntmps30
        go_wp2_with fail
        generalize w.alloc (.cells #[.slice va r.verbs.length vc, .slice ga r.groups.length gc, .slice sa r.resources.length sc, .slice na r.names.length nc, .slice pa r.paths.length pc] 24) = w0 at *
        have h0 := Below.refl w0.heap.size w0
        obtain ⟨q0, q1, q2, q3, q4⟩ := DC.out _ h0
        refine (k0 _).mono ?_
        rintro e w1 ⟨rfl, rfl⟩
        go_wp2_with fail
        refine (k1 _ ((RR.out _ h0).2.2.2.2) (ask_path B hB _)).mono ?_
        rintro e w2 ⟨rfl, hb1⟩
        have h2 := chain h0 hb1
        clear q0 q1 q2 q3 q4
        obtain ⟨q0, q1, q2, q3, q4⟩ := DC.out _ h2
        go_wp2
        go_ret
        exact ⟨ret_bool (by rw [H.out, e2]; rfl), chain b0 h2⟩
      | true =>
        cases e3 : ((r.resources.length : Int) == 0) with
        | false =>
          go_enter Tryd.func30, Tryd.ntmps30
          go_wp2_with fail
          generalize w.alloc (.cells #[.slice va r.verbs.length vc, .slice ga r.groups.length gc, .slice sa r.resources.length sc, .slice na r.names.length nc, .slice pa r.paths.length pc] 24) = w0 at *
          have h0 := Below.refl w0.heap.size w0
          obtain ⟨q0, q1, q2, q3, q4⟩ := DC.out _ h0
          refine (k0 _).mono ?_
          rintro e w1 ⟨rfl, rfl⟩
          go_wp2_with fail
          refine (k1 _ ((RR.out _ h0).2.2.2.2) (ask_path B hB _)).mono ?_
          rintro e w2 ⟨rfl, hb1⟩
          have h2 := chain h0 hb1
          clear q0 q1 q2 q3 q4
          obtain ⟨q0, q1, q2, q3, q4⟩ := DC.out _ h2
          go_wp2
          go_ret
          exact ⟨ret_bool (by rw [H.out, e2, e3]; rfl), chain b0 h2⟩
        | true =>
          cases e4 : ((r.names.length : Int) == 0) with
          | false =>
            go_enter Tryd.func30, Tryd.ntmps30
            go_wp2_with fail
            generalize w.alloc (.cells #[.slice va r.verbs.length vc, .slice ga r.groups.length gc, .slice sa r.resources.length sc, .slice na r.names.length nc, .slice pa r.paths.length pc] 24) = w0 at *
            have h0 := Below.refl w0.heap.size w0
            obtain ⟨q0, q1, q2, q3, q4⟩ := DC.out _ h0
            refine (k0 _).mono ?_
            rintro e w1 ⟨rfl, rfl⟩
            go_wp2_with fail
            refine (k1 _ ((RR.out _ h0).2.2.2.2) (ask_path B hB _)).mono ?_
            rintro e w2 ⟨rfl, hb1⟩
            have h2 := chain h0 hb1
            clear q0 q1 q2 q3 q4
            obtain ⟨q0, q1, q2, q3, q4⟩ := DC.out _ h2
            go_wp2
            go_ret
            exact ⟨ret_bool (by rw [H.out, e2, e3, e4]; rfl), chain b0 h2⟩
          | true =>
            go_enter Tryd.func30, Tryd.ntmps30
            go_wp2_with fail
            generalize w.alloc (.cells #[.slice va r.verbs.length vc, .slice ga r.groups.length gc, .slice sa r.resources.length sc, .slice na r.names.length nc, .slice pa r.paths.length pc] 24) = w0 at *
            have h0 := Below.refl w0.heap.size w0
            obtain ⟨q0, q1, q2, q3, q4⟩ := DC.out _ h0
            refine (k0 _).mono ?_
            rintro e w1 ⟨rfl, rfl⟩
            go_wp2_with fail
            refine (k1 _ ((RR.out _ h0).2.2.2.2) (ask_path B hB _)).mono ?_
            rintro e w2 ⟨rfl, hb1⟩
            have h2 := chain h0 hb1
            clear q0 q1 q2 q3 q4
            obtain ⟨q0, q1, q2, q3, q4⟩ := DC.out _ h2
            go_wp2
            go_ret
            exact ⟨ret_bool (by rw [H.out, e2, e3, e4]; rfl), chain b0 h2⟩
set_option maxHeartbeats 2000000 in
set_option maxRecDepth 100000 in
theorem Check_any (B : Nat) (hB : B ≤ 1048576) (r : Ru) (v g s n p : Value) (paths : Bool) (w : World) (hr : ruAt B w v g s n p r) (hm : nam.MaxL w) :
    Calls Tryd.prog 12 #[.agg #[v, g, s, n, p], .bool paths] w fun e w' => e = .returned (.bool (checkB r paths)) ∧ Below w.heap.size w w' := by
  obtain ⟨⟨va, vc, rfl, _, _, lv, hv⟩, ⟨ga, gc, rfl, _, _, lg, hg⟩, ⟨sa, sc, rfl, _, _, ls, hs⟩, ⟨na, nc, rfl, _, _, ln, hn⟩, ⟨pa, pc, rfl, _, _, lp, hp⟩⟩ := hr
  have b0 := below_new w (.cells #[.slice va r.verbs.length vc, .slice ga r.groups.length gc, .slice sa r.resources.length sc, .slice na r.names.length nc, .slice pa r.paths.length pc] 24)
  have RR := Lib.hid (show ∀ W, Below (w.alloc (.cells #[.slice va r.verbs.length vc, .slice ga r.groups.length gc, .slice sa r.resources.length sc, .slice na r.names.length nc, .slice pa r.paths.length pc] 24)).heap.size (w.alloc (.cells #[.slice va r.verbs.length vc, .slice ga r.groups.length gc, .slice sa r.resources.length sc, .slice na r.names.length nc, .slice pa r.paths.length pc] 24)) W → RowIn (text B) W va r.verbs ∧ RowIn (text B) W ga r.groups ∧ RowIn (text B) W sa r.resources ∧ RowIn (text B) W na r.names ∧ RowIn (text B) W pa r.paths from fun W h => ⟨hv.later (chain b0 h), hg.later (chain b0 h), hs.later (chain b0 h), hn.later (chain b0 h), hp.later (chain b0 h)⟩)
  have DC := Lib.hid (show ∀ W, Below (w.alloc (.cells #[.slice va r.verbs.length vc, .slice ga r.groups.length gc, .slice sa r.resources.length sc, .slice na r.names.length nc, .slice pa r.paths.length pc] 24)).heap.size (w.alloc (.cells #[.slice va r.verbs.length vc, .slice ga r.groups.length gc, .slice sa r.resources.length sc, .slice na r.names.length nc, .slice pa r.paths.length pc] 24)) W → W.cell? ⟨w.heap.size, 0, none⟩ = some (.slice va r.verbs.length vc) ∧ W.cell? ⟨w.heap.size, 1, none⟩ = some (.slice ga r.groups.length gc) ∧ W.cell? ⟨w.heap.size, 2, none⟩ = some (.slice sa r.resources.length sc) ∧ W.cell? ⟨w.heap.size, 3, none⟩ = some (.slice na r.names.length nc) ∧ W.cell? ⟨w.heap.size, 4, none⟩ = some (.slice pa r.paths.length pc) from fun W h => by
    refine ⟨?_, ?_, ?_, ?_, ?_⟩ <;> exact (h.cell (by show w.heap.size < _; simp)).trans (cell_new _ _ _ _))
  have HM := Lib.hid (show ∀ W, Below (w.alloc (.cells #[.slice va r.verbs.length vc, .slice ga r.groups.length gc, .slice sa r.resources.length sc, .slice na r.names.length nc, .slice pa r.paths.length pc] 24)).heap.size (w.alloc (.cells #[.slice va r.verbs.length vc, .slice ga r.groups.length gc, .slice sa r.resources.length sc, .slice na r.names.length nc, .slice pa r.paths.length pc] 24)) W → nam.MaxL W from fun W h => hm.later (chain b0 h))
  have RU := Lib.hid (show ∀ W, Below (w.alloc (.cells #[.slice va r.verbs.length vc, .slice ga r.groups.length gc, .slice sa r.resources.length sc, .slice na r.names.length nc, .slice pa r.paths.length pc] 24)).heap.size (w.alloc (.cells #[.slice va r.verbs.length vc, .slice ga r.groups.length gc, .slice sa r.resources.length sc, .slice na r.names.length nc, .slice pa r.paths.length pc] 24)) W → ruAt B W (.slice va r.verbs.length vc) (.slice ga r.groups.length gc) (.slice sa r.resources.length sc) (.slice na r.names.length nc) (.slice pa r.paths.length pc) r from fun W h => ⟨⟨_, _, rfl, by assumption, by assumption, lv, hv.later (chain b0 h)⟩, ⟨_, _, rfl, by assumption, by assumption, lg, hg.later (chain b0 h)⟩, ⟨_, _, rfl, by assumption, by assumption, ls, hs.later (chain b0 h)⟩, ⟨_, _, rfl, by assumption, by assumption, ln, hn.later (chain b0 h)⟩, ⟨_, _, rfl, by assumption, by assumption, lp, hp.later (chain b0 h)⟩⟩)
  have H := Lib.hid (show checkB r paths = (filledB r.verbs && ((r.verbs.all fun x => verbE x.data.toList) && (ofResB r || (paths && ofPathB r)))) from rfl)
  have k0 := fun W => filled_any va vc r.verbs (by omega) W
  have k1 := fun W h hp => each_any B 28 #[] (fun x => verbE x.data.toList) va vc r.verbs (by omega) W h hp
  have k2 := fun W h1 h2 => ofResources_any B hB r (.slice va r.verbs.length vc) (.slice ga r.groups.length gc) (.slice sa r.resources.length sc) (.slice na r.names.length nc) (.slice pa r.paths.length pc) W h1 h2
  have k4 := fun W h1 h2 => ofPaths_any B hB r (.slice va r.verbs.length vc) (.slice ga r.groups.length gc) (.slice sa r.resources.length sc) (.slice na r.names.length nc) (.slice pa r.paths.length pc) W h1 h2
  generalize filledB r.verbs = c0 at *
  generalize (r.verbs.all fun x => verbE x.data.toList) = c1 at *
  generalize ofResB r = c2 at *
  generalize ofPathB r = c4 at *
  clear hv hg hs hn hp
  cases c0 with
  | false =>
    go_enter Tryd.func12, Tryd.ntmps12
    go_wp2_with fail
    generalize w.alloc (.cells #[.slice va r.verbs.length vc, .slice ga r.groups.length gc, .slice sa r.resources.length sc, .slice na r.names.length nc, .slice pa r.paths.length pc] 24) = w0 at *
    have h0 := Below.refl w0.heap.size w0
    obtain ⟨q0, q1, q2, q3, q4⟩ := DC.out _ h0
    refine (k0 _).mono ?_
    rintro e w1 ⟨rfl, rfl⟩
    go_wp2
    go_ret
    exact ⟨ret_bool (by rw [H.out]; rfl), chain b0 h0⟩
  | true =>
    cases c1 with
    | false =>
      go_enter Tryd.func12, Tryd.ntmps12
      go_wp2_with fail
      generalize w.alloc (.cells #[.slice va r.verbs.length vc, .slice ga r.groups.length gc, .slice sa r.resources.length sc, .slice na r.names.length nc, .slice pa r.paths.length pc] 24) = w0 at *
      have h0 := Below.refl w0.heap.size w0
      obtain ⟨q0, q1, q2, q3, q4⟩ := DC.out _ h0
      refine (k0 _).mono ?_
      rintro e w1 ⟨rfl, rfl⟩
      go_wp2_with fail
      refine (k1 _ ((RR.out _ h0).1) (ask_verb B hB _)).mono ?_
      rintro e w2 ⟨rfl, hb1⟩
      have h2 := chain h0 hb1
      clear q0 q1 q2 q3 q4
      obtain ⟨q0, q1, q2, q3, q4⟩ := DC.out _ h2
      go_wp2
      go_ret
      exact ⟨ret_bool (by rw [H.out]; rfl), chain b0 h2⟩
    | true =>
      cases c2 with
      | true =>
        go_enter Tryd.func12, Tryd.ntmps12
        go_wp2_with fail
        generalize w.alloc (.cells #[.slice va r.verbs.length vc, .slice ga r.groups.length gc, .slice sa r.resources.length sc, .slice na r.names.length nc, .slice pa r.paths.length pc] 24) = w0 at *
        have h0 := Below.refl w0.heap.size w0
        obtain ⟨q0, q1, q2, q3, q4⟩ := DC.out _ h0
        refine (k0 _).mono ?_
        rintro e w1 ⟨rfl, rfl⟩
        go_wp2_with fail
        refine (k1 _ ((RR.out _ h0).1) (ask_verb B hB _)).mono ?_
        rintro e w2 ⟨rfl, hb1⟩
        have h2 := chain h0 hb1
        clear q0 q1 q2 q3 q4
        obtain ⟨q0, q1, q2, q3, q4⟩ := DC.out _ h2
        go_wp2_with fail
        refine (k2 _ (RU.out _ h2) (HM.out _ h2)).mono ?_
        rintro e w3 ⟨rfl, hb2⟩
        have h3 := chain h2 hb2
        clear q0 q1 q2 q3 q4
        obtain ⟨q0, q1, q2, q3, q4⟩ := DC.out _ h3
        go_wp2
        go_ret
        exact ⟨ret_bool (by rw [H.out]; rfl), chain b0 h3⟩
      | false =>
        cases paths with
        | false =>
          go_enter Tryd.func12, Tryd.ntmps12
          go_wp2_with fail
          generalize w.alloc (.cells #[.slice va r.verbs.length vc, .slice ga r.groups.length gc, .slice sa r.resources.length sc, .slice na r.names.length nc, .slice pa r.paths.length pc] 24) = w0 at *
          have h0 := Below.refl w0.heap.size w0
          obtain ⟨q0, q1, q2, q3, q4⟩ := DC.out _ h0
          refine (k0 _).mono ?_
          rintro e w1 ⟨rfl, rfl⟩
          go_wp2_with fail
          refine (k1 _ ((RR.out _ h0).1) (ask_verb B hB _)).mono ?_
          rintro e w2 ⟨rfl, hb1⟩
          have h2 := chain h0 hb1
          clear q0 q1 q2 q3 q4
          obtain ⟨q0, q1, q2, q3, q4⟩ := DC.out _ h2
          go_wp2_with fail
          refine (k2 _ (RU.out _ h2) (HM.out _ h2)).mono ?_
          rintro e w3 ⟨rfl, hb2⟩
          have h3 := chain h2 hb2
          clear q0 q1 q2 q3 q4
          obtain ⟨q0, q1, q2, q3, q4⟩ := DC.out _ h3
          go_wp2
          go_ret
          exact ⟨ret_bool (by rw [H.out]; rfl), chain b0 h3⟩
        | true =>
          go_enter Tryd.func12, Tryd.ntmps12
          go_wp2_with fail
          generalize w.alloc (.cells #[.slice va r.verbs.length vc, .slice ga r.groups.length gc, .slice sa r.resources.length sc, .slice na r.names.length nc, .slice pa r.paths.length pc] 24) = w0 at *
          have h0 := Below.refl w0.heap.size w0
          obtain ⟨q0, q1, q2, q3, q4⟩ := DC.out _ h0
          refine (k0 _).mono ?_
          rintro e w1 ⟨rfl, rfl⟩
          go_wp2_with fail
          refine (k1 _ ((RR.out _ h0).1) (ask_verb B hB _)).mono ?_
          rintro e w2 ⟨rfl, hb1⟩
          have h2 := chain h0 hb1
          clear q0 q1 q2 q3 q4
          obtain ⟨q0, q1, q2, q3, q4⟩ := DC.out _ h2
          go_wp2_with fail
          refine (k2 _ (RU.out _ h2) (HM.out _ h2)).mono ?_
          rintro e w3 ⟨rfl, hb2⟩
          have h3 := chain h2 hb2
          clear q0 q1 q2 q3 q4
          obtain ⟨q0, q1, q2, q3, q4⟩ := DC.out _ h3
          go_wp2_with fail
          refine (k4 _ (RU.out _ h3) (HM.out _ h3)).mono ?_
          rintro e w5 ⟨rfl, hb4⟩
          have h5 := chain h3 hb4
          clear q0 q1 q2 q3 q4
          obtain ⟨q0, q1, q2, q3, q4⟩ := DC.out _ h5
          go_wp2
          go_ret
          exact ⟨ret_bool (by rw [H.out]; rfl), chain b0 h5⟩
end Go.Proofs.YthflpgeonllgdaaDoor.rul
