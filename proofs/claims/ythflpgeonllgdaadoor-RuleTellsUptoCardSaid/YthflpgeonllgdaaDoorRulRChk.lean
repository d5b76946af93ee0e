/- Layer 8: of the document: Check. -/
import Derived.Test.YthflpgeonllgdaaDoorRulRRes
import Derived.Test.YthflpgeonllgdaaDoorRulChk
namespace Go.Proofs.YthflpgeonllgdaaDoor.rul
open Go.RowKit Go.Proofs.YthflpgeonllgdaaDoor.rep Go.Proofs.YthflpgeonllgdaaDoor.lab

theorem all_at {α : Type} {p : α → Bool} {l : List α} (h : ∀ j (hj : j < l.length), p l[j] = true) : l.all p = true := by
  rw [List.all_eq_true]
  intro x hx
  obtain ⟨i, hi, rfl⟩ := List.getElem_of_mem hx
  exact h i hi
theorem all_no {α : Type} {p : α → Bool} {l : List α} {j : Nat} (hj : j < l.length) (h : p l[j] = false) : l.all p = false := by
  rw [List.all_eq_false]
  exact ⟨l[j], List.getElem_mem hj, by rw [h]; decide⟩
theorem len_beq {n : Nat} : ((n : Int) == 0) = decide (n = 0) := by
  rw [Bool.eq_iff_iff, beq_iff_eq, decide_eq_true_eq]; omega
/-- Check, by the way that the document goes. -/
theorem chk_paths {r : Ru} {paths : Bool} (h : 0 < r.paths.length) : checkB r paths = (filledB r.verbs && ((r.verbs.all fun x => verbE x.data.toList) && (paths && ofPathB r))) := by
  have h2 : ofResB r = false := by
    unfold ofResB
    rw [len_beq, decide_eq_false (p := r.paths.length = 0) (by omega)]
    simp
  unfold checkB
  rw [h2, Bool.false_or]
theorem chk_res {r : Ru} {paths : Bool} (h : ¬ 0 < r.paths.length) : checkB r paths = (filledB r.verbs && ((r.verbs.all fun x => verbE x.data.toList) && ofResB r)) := by
  have h2 : ofPathB r = false := by
    unfold ofPathB filledB
    rw [decide_eq_false (p := 1 ≤ r.paths.length) (by omega)]
    rfl
  unfold checkB
  rw [h2, Bool.and_false, Bool.or_false]
theorem filled_no {l : List ByteArray} (h : ¬ ((1 : Int) ≤ l.length ∧ (l.length : Int) ≤ 16)) : filledB l = false := by
  unfold filledB
  by_cases h1 : 1 ≤ l.length
  · rw [decide_eq_false (p := l.length ≤ 16) (by omega), Bool.and_false]
  · rw [decide_eq_false h1]; rfl
theorem filled_yes {l : List ByteArray} (h1 : (1 : Int) ≤ l.length) (h2 : (l.length : Int) ≤ 16) : filledB l = true := by
  unfold filledB
  rw [decide_eq_true (by omega), decide_eq_true (by omega)]; rfl
set_option maxHeartbeats 4000000 in
set_option maxRecDepth 100000 in
theorem rCheck_any (B : Nat) (hB : B ≤ 1048576) (r : Ru) (v g s n p : Value) (paths : Bool) (w : World) (hr : ruAt B w v g s n p r) :
    Calls Tryd.prog 13 #[.agg #[v, g, s, n, p], .bool paths] w fun e w' => e = .returned (.bool (checkB r paths)) ∧ Below w.heap.size w w' := by
  obtain ⟨⟨va, vc, rfl, _, _, lv, hv⟩, ⟨ga, gc, rfl, _, _, lg, hg⟩, ⟨sa, sc, rfl, _, _, ls, hs⟩, ⟨na, nc, rfl, _, _, ln, hn⟩, ⟨pa, pc, rfl, _, _, lp, hp⟩⟩ := hr
  have b0 := below_new w (.cells #[.slice va r.verbs.length vc, .slice ga r.groups.length gc, .slice sa r.resources.length sc, .slice na r.names.length nc, .slice pa r.paths.length pc] 24)
  have RR := Lib.hid (show ∀ W, Below (w.alloc (.cells #[.slice va r.verbs.length vc, .slice ga r.groups.length gc, .slice sa r.resources.length sc, .slice na r.names.length nc, .slice pa r.paths.length pc] 24)).heap.size (w.alloc (.cells #[.slice va r.verbs.length vc, .slice ga r.groups.length gc, .slice sa r.resources.length sc, .slice na r.names.length nc, .slice pa r.paths.length pc] 24)) W → RowIn (text B) W va r.verbs ∧ RowIn (text B) W ga r.groups ∧ RowIn (text B) W sa r.resources ∧ RowIn (text B) W na r.names ∧ RowIn (text B) W pa r.paths from fun W h => ⟨hv.later (chain b0 h), hg.later (chain b0 h), hs.later (chain b0 h), hn.later (chain b0 h), hp.later (chain b0 h)⟩)
  have DC := Lib.hid (show ∀ W, Below (w.alloc (.cells #[.slice va r.verbs.length vc, .slice ga r.groups.length gc, .slice sa r.resources.length sc, .slice na r.names.length nc, .slice pa r.paths.length pc] 24)).heap.size (w.alloc (.cells #[.slice va r.verbs.length vc, .slice ga r.groups.length gc, .slice sa r.resources.length sc, .slice na r.names.length nc, .slice pa r.paths.length pc] 24)) W → W.cell? ⟨w.heap.size, 0, none⟩ = some (.slice va r.verbs.length vc) ∧ W.cell? ⟨w.heap.size, 1, none⟩ = some (.slice ga r.groups.length gc) ∧ W.cell? ⟨w.heap.size, 2, none⟩ = some (.slice sa r.resources.length sc) ∧ W.cell? ⟨w.heap.size, 3, none⟩ = some (.slice na r.names.length nc) ∧ W.cell? ⟨w.heap.size, 4, none⟩ = some (.slice pa r.paths.length pc) from fun W h => by
    refine ⟨?_, ?_, ?_, ?_, ?_⟩ <;> exact (h.cell (by show w.heap.size < _; simp)).trans (cell_new _ _ _ _))
  clear hv hg hs hn hp
  have l1 : r.verbs.length ≤ 1048576 := by omega
  have l2 : r.groups.length ≤ 1048576 := by omega
  have l3 : r.resources.length ≤ 1048576 := by omega
  have l4 : r.names.length ≤ 1048576 := by omega
  have l5 : r.paths.length ≤ 1048576 := by omega
  clear lv lg ls ln lp
  obtain ⟨R, hR⟩ : ∃ R, checkB r paths = R := ⟨_, rfl⟩
  have HR := Lib.hid hR
  rw [hR]
  clear hR
  by_cases v1 : (1 : Int) ≤ r.verbs.length
  case neg =>
    go_enter Tryd.func13, Tryd.ntmps13
    go_wp2
    go_ret
    exact ⟨ret_bool (by rw [← HR.out]; unfold checkB; rw [filled_no (l := r.verbs) (by omega)]; rfl), b0⟩
  by_cases v2 : (r.verbs.length : Int) ≤ 16
  case neg =>
    go_enter Tryd.func13, Tryd.ntmps13
    go_wp2
    go_ret
    exact ⟨ret_bool (by rw [← HR.out]; unfold checkB; rw [filled_no (l := r.verbs) (by omega)]; rfl), b0⟩
  go_enter Tryd.func13, Tryd.ntmps13
  go_wp2
  generalize w.alloc (.cells #[.slice va r.verbs.length vc, .slice ga r.groups.length gc, .slice sa r.resources.length sc, .slice na r.names.length nc, .slice pa r.paths.length pc] 24) = w0 at *
  have h0 := Below.refl w0.heap.size w0
  obtain ⟨q0, q1, q2, q3, q4⟩ := DC.out _ h0
  go_loopw [5] (fun u wr => ∃ k : Nat, k ≤ r.verbs.length ∧ u = .int .i64 k ∧ Hid (∀ j, j < k → ∀ (hj : j < r.verbs.length), verbE r.verbs[j].data.toList = true) ∧ Below w0.heap.size w0 wr) (fun u _ => r.verbs.length - (intOf u).toNat)
  case atStart => exact ⟨0, by omega, rfl, fun j hj => by omega, h0⟩
  case round =>
    obtain ⟨k1, hk1, rfl, A1, h1⟩ := hrel
    obtain ⟨w1, rfl⟩ : ∃ w', w' = wr := ⟨wr, rfl⟩
    clear q0 q1 q2 q3 q4
    obtain ⟨q0, q1, q2, q3, q4⟩ := DC.out _ h1
    by_cases hlt1 : k1 < r.verbs.length
    case pos =>
      obtain ⟨bb, off, hva, hbl, cs, hat, hcell⟩ := ((RR.out _ h1).1).get hlt1
      subst hva
      obtain ⟨hcs, hx⟩ := hat
      subst hcs
      have c0 : w1.cell? ⟨bb, off + k1, none⟩ = some (.string r.verbs[k1]) := by have := hcell 0 _ rfl; simpa [text] using this
      clear hcell
      have Miss := Lib.hid (show verbE r.verbs[k1].data.toList = false → (r.verbs.all fun x => verbE x.data.toList) = false from fun h => all_no (p := fun x : ByteArray => verbE x.data.toList) hlt1 h)
      have Next := Lib.hid (show verbE r.verbs[k1].data.toList = true → ∀ j, j < k1 + 1 → ∀ (hj : j < r.verbs.length), verbE r.verbs[j].data.toList = true from fun h j hjk hj => by
        by_cases e : j = k1
        · subst e; exact h
        · exact A1.out j (by omega) hj)
      clear A1
      generalize r.verbs[k1] = x at *
      have cv := fun W => nam.rVerb_any x (by unfold Go.maxLen; omega) W
      cases e1 : (x.toList == [42]) with
      | true =>
        cases e2 : nam.verbB x.data.toList <;>
        · rw [e2] at cv
          go_wp2_with fail
          refine (cv _).mono ?_
          rintro e w9 ⟨rfl, rfl⟩
          have Hn := Lib.hid (Next.out (by unfold verbE; rw [starR_l, e1]; rfl))
          clear Next Miss
          go_wp2
          go_roundw
          case rel => exact ⟨k1 + 1, by omega, by go_num, Hn, h1⟩
          case measure => simp [intOf]; omega
      | false =>
        cases e2 : nam.verbB x.data.toList with
        | true =>
          rw [e2] at cv
          go_wp2_with fail
          refine (cv _).mono ?_
          rintro e w9 ⟨rfl, rfl⟩
          have Hn := Lib.hid (Next.out (by unfold verbE; rw [starR_l, e1, e2]; rfl))
          clear Next Miss
          go_wp2
          go_roundw
          case rel => exact ⟨k1 + 1, by omega, by go_num, Hn, h1⟩
          case measure => simp [intOf]; omega
        | false =>
          rw [e2] at cv
          go_wp2_with fail
          refine (cv _).mono ?_
          rintro e w9 ⟨rfl, rfl⟩
          have Hm := Lib.hid (Miss.out (by unfold verbE; rw [starR_l, e1, e2]; rfl))
          clear Next Miss
          go_wp2
          go_ret
          exact ⟨ret_bool (by rw [← HR.out]; unfold checkB; rw [Hm.out, Bool.false_and, Bool.and_false]), chain b0 h1⟩
    case neg =>
      have H1 := Lib.hid (all_at (p := fun x : ByteArray => verbE x.data.toList) (l := r.verbs) fun j hj => A1.out j (by omega) hj)
      clear A1
      by_cases hp0 : 0 < r.paths.length
      case pos =>
        have hpi : (0 : Int) < r.paths.length := by omega
        cases paths with
        | false =>
          go_wp2
          go_ret
          exact ⟨ret_bool (by rw [← HR.out]; rw [chk_paths hp0, Bool.false_and, Bool.and_false, Bool.and_false]), chain b0 h1⟩
        | true =>
          by_cases p16 : (r.paths.length : Int) ≤ 16
          case neg =>
            go_wp2
            go_ret
            exact ⟨ret_bool (by rw [← HR.out]; rw [chk_paths hp0]; unfold ofPathB; rw [filled_no (l := r.paths) (by omega)]; simp), chain b0 h1⟩
          by_cases z3 : (0 : Int) < (r.groups.length : Int) + (r.resources.length : Int) + (r.names.length : Int)
          case pos =>
            have z4 : r.groups.length ≠ 0 ∨ r.resources.length ≠ 0 ∨ r.names.length ≠ 0 := by omega
            go_wp2
            go_ret
            exact ⟨ret_bool (by rw [← HR.out]; rw [chk_paths hp0]; unfold ofPathB; rw [len_beq, len_beq, len_beq]; rcases z4 with h | h | h <;> simp [h]), chain b0 h1⟩
          go_wp2
          go_loopw [7] (fun u wr => ∃ k : Nat, k ≤ r.paths.length ∧ u = .int .i64 k ∧ Hid (∀ j, j < k → ∀ (hj : j < r.paths.length), pathE r.paths[j].data.toList = true) ∧ Below w0.heap.size w0 wr) (fun u _ => r.paths.length - (intOf u).toNat)
          case atStart => exact ⟨0, by omega, rfl, fun j hj => by omega, h1⟩
          case round =>
            obtain ⟨k2, hk2, rfl, A2, h2⟩ := hrel
            obtain ⟨w2, rfl⟩ : ∃ w', w' = wr := ⟨wr, rfl⟩
            clear q0 q1 q2 q3 q4
            obtain ⟨q0, q1, q2, q3, q4⟩ := DC.out _ h2
            by_cases hlt2 : k2 < r.paths.length
            case pos =>
              obtain ⟨bb, off, hva, hbl, cs, hat, hcell⟩ := ((RR.out _ h2).2.2.2.2).get hlt2
              subst hva
              obtain ⟨hcs, hx⟩ := hat
              subst hcs
              have c0 : w2.cell? ⟨bb, off + k2, none⟩ = some (.string r.paths[k2]) := by have := hcell 0 _ rfl; simpa [text] using this
              clear hcell
              have Miss := Lib.hid (show pathE r.paths[k2].data.toList = false → (r.paths.all fun x => pathE x.data.toList) = false from fun h => all_no (p := fun x : ByteArray => pathE x.data.toList) hlt2 h)
              have Next := Lib.hid (show pathE r.paths[k2].data.toList = true → ∀ j, j < k2 + 1 → ∀ (hj : j < r.paths.length), pathE r.paths[j].data.toList = true from fun h j hjk hj => by
                by_cases e : j = k2
                · subst e; exact h
                · exact A2.out j (by omega) hj)
              clear A2
              generalize r.paths[k2] = x at *
              have cv := fun W => rpath_any x (by omega) W
              cases e2 : pathE x.data.toList with
              | true =>
                rw [e2] at cv
                go_wp2_with fail
                refine (cv _).mono ?_
                rintro e w9 ⟨rfl, rfl⟩
                have Hn := Lib.hid (Next.out (by exact e2))
                clear Next Miss
                go_wp2
                go_roundw
                case rel => exact ⟨k2 + 1, by omega, by go_num, Hn, h2⟩
                case measure => simp [intOf]; omega
              | false =>
                rw [e2] at cv
                go_wp2_with fail
                refine (cv _).mono ?_
                rintro e w9 ⟨rfl, rfl⟩
                have Hm := Lib.hid (Miss.out (by exact e2))
                clear Next Miss
                go_wp2
                go_ret
                exact ⟨ret_bool (by rw [← HR.out]; rw [chk_paths hp0]; unfold ofPathB; rw [Hm.out, Bool.false_and, Bool.and_false, Bool.and_false, Bool.and_false, Bool.and_false]), chain b0 h2⟩
            case neg =>
              have H2 := Lib.hid (all_at (p := fun x : ByteArray => pathE x.data.toList) (l := r.paths) fun j hj => A2.out j (by omega) hj)
              clear A2
              go_wp2
              go_ret
              exact ⟨ret_bool (by rw [← HR.out]; rw [chk_paths hp0]; unfold ofPathB; rw [filled_yes v1 v2, filled_yes (by omega : (1 : Int) ≤ r.paths.length) p16, H1.out, H2.out, len_beq, len_beq, len_beq, decide_eq_true (p := r.groups.length = 0) (by omega), decide_eq_true (p := r.resources.length = 0) (by omega), decide_eq_true (p := r.names.length = 0) (by omega)]; rfl), chain b0 h2⟩
      case neg =>
        have hpi : ¬ (0 : Int) < r.paths.length := by omega
        by_cases g1 : (1 : Int) ≤ r.groups.length
        case neg =>
          go_wp2
          go_ret
          exact ⟨ret_bool (by rw [← HR.out]; rw [chk_res hp0]; unfold ofResB; rw [filled_no (l := r.groups) (by omega)]; simp), chain b0 h1⟩
        by_cases g2 : (r.groups.length : Int) ≤ 16
        case neg =>
          go_wp2
          go_ret
          exact ⟨ret_bool (by rw [← HR.out]; rw [chk_res hp0]; unfold ofResB; rw [filled_no (l := r.groups) (by omega)]; simp), chain b0 h1⟩
        by_cases s1 : (1 : Int) ≤ r.resources.length
        case neg =>
          go_wp2
          go_ret
          exact ⟨ret_bool (by rw [← HR.out]; rw [chk_res hp0]; unfold ofResB; rw [filled_no (l := r.resources) (by omega)]; simp), chain b0 h1⟩
        by_cases s2 : (r.resources.length : Int) ≤ 16
        case neg =>
          go_wp2
          go_ret
          exact ⟨ret_bool (by rw [← HR.out]; rw [chk_res hp0]; unfold ofResB; rw [filled_no (l := r.resources) (by omega)]; simp), chain b0 h1⟩
        by_cases n2 : (r.names.length : Int) ≤ 16
        case neg =>
          go_wp2
          go_ret
          exact ⟨ret_bool (by rw [← HR.out]; rw [chk_res hp0]; unfold ofResB; rw [decide_eq_false (p := (r.names.length : Int) ≤ 16) (by omega)]; simp), chain b0 h1⟩
        go_wp2
        go_loopw [9] (fun u wr => ∃ k : Nat, k ≤ r.groups.length ∧ u = .int .i64 k ∧ Hid (∀ j, j < k → ∀ (hj : j < r.groups.length), groupE r.groups[j].data.toList = true) ∧ Below w0.heap.size w0 wr) (fun u _ => r.groups.length - (intOf u).toNat)
        case atStart => exact ⟨0, by omega, rfl, fun j hj => by omega, h1⟩
        case round =>
          obtain ⟨k3, hk3, rfl, A3, h3⟩ := hrel
          obtain ⟨w3, rfl⟩ : ∃ w', w' = wr := ⟨wr, rfl⟩
          clear q0 q1 q2 q3 q4
          obtain ⟨q0, q1, q2, q3, q4⟩ := DC.out _ h3
          by_cases hlt3 : k3 < r.groups.length
          case pos =>
            obtain ⟨bb, off, hva, hbl, cs, hat, hcell⟩ := ((RR.out _ h3).2.1).get hlt3
            subst hva
            obtain ⟨hcs, hx⟩ := hat
            subst hcs
            have c0 : w3.cell? ⟨bb, off + k3, none⟩ = some (.string r.groups[k3]) := by have := hcell 0 _ rfl; simpa [text] using this
            clear hcell
            have Miss := Lib.hid (show groupE r.groups[k3].data.toList = false → (r.groups.all fun x => groupE x.data.toList) = false from fun h => all_no (p := fun x : ByteArray => groupE x.data.toList) hlt3 h)
            have Next := Lib.hid (show groupE r.groups[k3].data.toList = true → ∀ j, j < k3 + 1 → ∀ (hj : j < r.groups.length), groupE r.groups[j].data.toList = true from fun h j hjk hj => by
              by_cases e : j = k3
              · subst e; exact h
              · exact A3.out j (by omega) hj)
            clear A3
            generalize r.groups[k3] = x at *
            have cv := fun W => nam.rSubdomain_any x (by omega) W
            cases e1 : (x.toList == [42]) with
            | true =>
              cases e2 : nam.subB x.data.toList with
              | true =>
                rw [e2] at cv
                go_wp2_with fail
                refine (cv _).mono ?_
                rintro e w9 ⟨rfl, hb9⟩
                have h9 := chain h3 hb9
                clear q0 q1 q2 q3 q4
                obtain ⟨q0, q1, q2, q3, q4⟩ := DC.out _ h9
                have c0 := (hb9.cell (p := ⟨bb, off + k3, none⟩) hbl).trans c0
                have Hn := Lib.hid (Next.out (by unfold groupE starL; rw [← ByteArray.toList_eq, e1]; rfl))
                clear Next Miss
                go_wp2
                go_roundw
                case rel => exact ⟨k3 + 1, by omega, by go_num, Hn, h9⟩
                case measure => simp [intOf]; omega
              | false =>
                rw [e2] at cv
                go_wp2_with fail
                refine (cv _).mono ?_
                rintro e w9 ⟨rfl, hb9⟩
                have h9 := chain h3 hb9
                clear q0 q1 q2 q3 q4
                obtain ⟨q0, q1, q2, q3, q4⟩ := DC.out _ h9
                have c0 := (hb9.cell (p := ⟨bb, off + k3, none⟩) hbl).trans c0
                have Hn := Lib.hid (Next.out (by unfold groupE starL; rw [← ByteArray.toList_eq, e1]; rfl))
                clear Next Miss
                go_wp2
                go_roundw
                case rel => exact ⟨k3 + 1, by omega, by go_num, Hn, h9⟩
                case measure => simp [intOf]; omega
            | false =>
              cases e3 : x.toList.isEmpty with
              | true =>
                cases e2 : nam.subB x.data.toList with
                | true =>
                  rw [e2] at cv
                  go_wp2_with fail
                  refine (cv _).mono ?_
                  rintro e w9 ⟨rfl, hb9⟩
                  have h9 := chain h3 hb9
                  clear q0 q1 q2 q3 q4
                  obtain ⟨q0, q1, q2, q3, q4⟩ := DC.out _ h9
                  have c0 := (hb9.cell (p := ⟨bb, off + k3, none⟩) hbl).trans c0
                  have Hn := Lib.hid (Next.out (by unfold groupE starL; rw [← ByteArray.toList_eq, e1, e3]; rfl))
                  clear Next Miss
                  go_wp2
                  go_roundw
                  case rel => exact ⟨k3 + 1, by omega, by go_num, Hn, h9⟩
                  case measure => simp [intOf]; omega
                | false =>
                  rw [e2] at cv
                  go_wp2_with fail
                  refine (cv _).mono ?_
                  rintro e w9 ⟨rfl, hb9⟩
                  have h9 := chain h3 hb9
                  clear q0 q1 q2 q3 q4
                  obtain ⟨q0, q1, q2, q3, q4⟩ := DC.out _ h9
                  have c0 := (hb9.cell (p := ⟨bb, off + k3, none⟩) hbl).trans c0
                  have Hn := Lib.hid (Next.out (by unfold groupE starL; rw [← ByteArray.toList_eq, e1, e3]; rfl))
                  clear Next Miss
                  go_wp2
                  go_roundw
                  case rel => exact ⟨k3 + 1, by omega, by go_num, Hn, h9⟩
                  case measure => simp [intOf]; omega
              | false =>
                cases e2 : nam.subB x.data.toList with
                | true =>
                  rw [e2] at cv
                  go_wp2_with fail
                  refine (cv _).mono ?_
                  rintro e w9 ⟨rfl, hb9⟩
                  have h9 := chain h3 hb9
                  clear q0 q1 q2 q3 q4
                  obtain ⟨q0, q1, q2, q3, q4⟩ := DC.out _ h9
                  have c0 := (hb9.cell (p := ⟨bb, off + k3, none⟩) hbl).trans c0
                  have Hn := Lib.hid (Next.out (by unfold groupE starL; rw [← ByteArray.toList_eq, e1, e3]; rw [ByteArray.toList_eq, e2]; rfl))
                  clear Next Miss
                  go_wp2
                  go_roundw
                  case rel => exact ⟨k3 + 1, by omega, by go_num, Hn, h9⟩
                  case measure => simp [intOf]; omega
                | false =>
                  rw [e2] at cv
                  go_wp2_with fail
                  refine (cv _).mono ?_
                  rintro e w9 ⟨rfl, hb9⟩
                  have h9 := chain h3 hb9
                  clear q0 q1 q2 q3 q4
                  obtain ⟨q0, q1, q2, q3, q4⟩ := DC.out _ h9
                  have c0 := (hb9.cell (p := ⟨bb, off + k3, none⟩) hbl).trans c0
                  have Hm := Lib.hid (Miss.out (by unfold groupE starL; rw [← ByteArray.toList_eq, e1, e3]; rw [ByteArray.toList_eq, e2]; rfl))
                  clear Next Miss
                  go_wp2
                  go_ret
                  exact ⟨ret_bool (by rw [← HR.out]; rw [chk_res hp0]; unfold ofResB; rw [Hm.out]; simp), chain b0 h9⟩
          case neg =>
            have H3 := Lib.hid (all_at (p := fun x : ByteArray => groupE x.data.toList) (l := r.groups) fun j hj => A3.out j (by omega) hj)
            clear A3
            go_wp2
            go_loopw [11] (fun u wr => ∃ k : Nat, k ≤ r.resources.length ∧ u = .int .i64 k ∧ Hid (∀ j, j < k → ∀ (hj : j < r.resources.length), resE r.resources[j].data.toList = true) ∧ Below w0.heap.size w0 wr) (fun u _ => r.resources.length - (intOf u).toNat)
            case atStart => exact ⟨0, by omega, rfl, fun j hj => by omega, h3⟩
            case round =>
              obtain ⟨k4, hk4, rfl, A4, h4⟩ := hrel
              obtain ⟨w4, rfl⟩ : ∃ w', w' = wr := ⟨wr, rfl⟩
              clear q0 q1 q2 q3 q4
              obtain ⟨q0, q1, q2, q3, q4⟩ := DC.out _ h4
              by_cases hlt4 : k4 < r.resources.length
              case pos =>
                obtain ⟨bb, off, hva, hbl, cs, hat, hcell⟩ := ((RR.out _ h4).2.2.1).get hlt4
                subst hva
                obtain ⟨hcs, hx⟩ := hat
                subst hcs
                have c0 : w4.cell? ⟨bb, off + k4, none⟩ = some (.string r.resources[k4]) := by have := hcell 0 _ rfl; simpa [text] using this
                clear hcell
                have Miss := Lib.hid (show resE r.resources[k4].data.toList = false → (r.resources.all fun x => resE x.data.toList) = false from fun h => all_no (p := fun x : ByteArray => resE x.data.toList) hlt4 h)
                have Next := Lib.hid (show resE r.resources[k4].data.toList = true → ∀ j, j < k4 + 1 → ∀ (hj : j < r.resources.length), resE r.resources[j].data.toList = true from fun h j hjk hj => by
                  by_cases e : j = k4
                  · subst e; exact h
                  · exact A4.out j (by omega) hj)
                clear A4
                generalize r.resources[k4] = x at *
                have cv := fun W => rresource_any x (by omega) W
                cases e2 : resE x.data.toList with
                | true =>
                  rw [e2] at cv
                  go_wp2_with fail
                  refine (cv _).mono ?_
                  rintro e w9 ⟨rfl, hb9⟩
                  have Hn := Lib.hid (Next.out (by exact e2))
                  clear Next Miss
                  go_wp2
                  go_roundw
                  case rel => exact ⟨k4 + 1, by omega, by go_num, Hn, (chain h4 hb9)⟩
                  case measure => simp [intOf]; omega
                | false =>
                  rw [e2] at cv
                  go_wp2_with fail
                  refine (cv _).mono ?_
                  rintro e w9 ⟨rfl, hb9⟩
                  have Hm := Lib.hid (Miss.out (by exact e2))
                  clear Next Miss
                  go_wp2
                  go_ret
                  exact ⟨ret_bool (by rw [← HR.out]; rw [chk_res hp0]; unfold ofResB; rw [Hm.out]; simp), chain b0 (chain h4 hb9)⟩
              case neg =>
                have H4 := Lib.hid (all_at (p := fun x : ByteArray => resE x.data.toList) (l := r.resources) fun j hj => A4.out j (by omega) hj)
                clear A4
                go_wp2
                go_loopw [13] (fun u wr => ∃ k : Nat, k ≤ r.names.length ∧ u = .int .i64 k ∧ Hid (∀ j, j < k → ∀ (hj : j < r.names.length), nam.segB r.names[j].data.toList = true) ∧ Below w0.heap.size w0 wr) (fun u _ => r.names.length - (intOf u).toNat)
                case atStart => exact ⟨0, by omega, rfl, fun j hj => by omega, h4⟩
                case round =>
                  obtain ⟨k5, hk5, rfl, A5, h5⟩ := hrel
                  obtain ⟨w5, rfl⟩ : ∃ w', w' = wr := ⟨wr, rfl⟩
                  clear q0 q1 q2 q3 q4
                  obtain ⟨q0, q1, q2, q3, q4⟩ := DC.out _ h5
                  by_cases hlt5 : k5 < r.names.length
                  case pos =>
                    obtain ⟨bb, off, hva, hbl, cs, hat, hcell⟩ := ((RR.out _ h5).2.2.2.1).get hlt5
                    subst hva
                    obtain ⟨hcs, hx⟩ := hat
                    subst hcs
                    have c0 : w5.cell? ⟨bb, off + k5, none⟩ = some (.string r.names[k5]) := by have := hcell 0 _ rfl; simpa [text] using this
                    clear hcell
                    have Miss := Lib.hid (show nam.segB r.names[k5].data.toList = false → (r.names.all fun x => nam.segB x.data.toList) = false from fun h => all_no (p := fun x : ByteArray => nam.segB x.data.toList) hlt5 h)
                    have Next := Lib.hid (show nam.segB r.names[k5].data.toList = true → ∀ j, j < k5 + 1 → ∀ (hj : j < r.names.length), nam.segB r.names[j].data.toList = true from fun h j hjk hj => by
                      by_cases e : j = k5
                      · subst e; exact h
                      · exact A5.out j (by omega) hj)
                    clear A5
                    generalize r.names[k5] = x at *
                    have cv := fun W => nam.rSegment_any x (by unfold Go.maxLen; omega) W
                    cases e2 : nam.segB x.data.toList with
                    | true =>
                      rw [e2] at cv
                      go_wp2_with fail
                      refine (cv _).mono ?_
                      rintro e w9 ⟨rfl, rfl⟩
                      have Hn := Lib.hid (Next.out (by exact e2))
                      clear Next Miss
                      go_wp2
                      go_roundw
                      case rel => exact ⟨k5 + 1, by omega, by go_num, Hn, h5⟩
                      case measure => simp [intOf]; omega
                    | false =>
                      rw [e2] at cv
                      go_wp2_with fail
                      refine (cv _).mono ?_
                      rintro e w9 ⟨rfl, rfl⟩
                      have Hm := Lib.hid (Miss.out (by exact e2))
                      clear Next Miss
                      go_wp2
                      go_ret
                      exact ⟨ret_bool (by rw [← HR.out]; rw [chk_res hp0]; unfold ofResB; rw [Hm.out]; simp), chain b0 h5⟩
                  case neg =>
                    have H5 := Lib.hid (all_at (p := fun x : ByteArray => nam.segB x.data.toList) (l := r.names) fun j hj => A5.out j (by omega) hj)
                    clear A5
                    go_wp2
                    go_ret
                    exact ⟨ret_bool (by rw [← HR.out]; rw [chk_res hp0]; unfold ofResB; rw [filled_yes v1 v2, filled_yes g1 g2, filled_yes s1 s2, H1.out, H3.out, H4.out, H5.out, decide_eq_true n2, len_beq, decide_eq_true (p := r.paths.length = 0) (by omega)]; rfl), chain b0 h5⟩
end Go.Proofs.YthflpgeonllgdaaDoor.rul
