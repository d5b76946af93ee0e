/- Layer 8: rule's Allows. -/
import Derived.Test.YthflpgeonllgdaaDoorRulPth2
import Derived.Deep.CutBlock
import Derived.Test.YthflpgeonllgdaaDoorRepH
namespace Go.Proofs.YthflpgeonllgdaaDoor.rul
open Go.RowKit Go.Proofs.YthflpgeonllgdaaDoor.rep Go.Proofs.YthflpgeonllgdaaDoor.lab

theorem two_len (a b : ByteArray) : [a, b].length ≤ 9223372036854775807 := by show 2 ≤ _; omega
theorem two_size (a : ByteArray) : ∀ x ∈ [a, starT], x.size ≤ a.size + 1 := by
  have hs : starT.size = 1 := rfl
  simp only [List.mem_cons, List.not_mem_nil, or_false]
  rintro x (rfl | rfl) <;> omega
theorem cell_new2 (w : World) (cs ds : Array Value) (t u : TypeId) (j : Nat) : ((w.alloc (.cells cs t)).alloc (.cells ds u)).cell? ⟨w.heap.size + 1, j, none⟩ = ds[j]? := by
  have := cell_new (w.alloc (.cells cs t)) ds u j
  rwa [World.size_alloc] at this
set_option maxHeartbeats 2000000 in
set_option maxRecDepth 100000 in
theorem Allows_any (B : Nat) (hB : B ≤ 140737488355328) (r : Ru) (v g s n p : Value) (x : Ak) (w : World) (hr : ruAt B w v g s n p r) (hx : akOk B x) :
    Calls Tryd.prog 16 #[.agg #[v, g, s, n, p], .agg #[.string x.verb, .string x.group, .string x.resource, .string x.part, .string x.name, .string x.space, .string x.path]] w fun e w' => e = .returned (.bool (allowsB r x)) ∧ Below w.heap.size w w' := by
  obtain ⟨⟨va, vc, rfl, _, _, lv, hv⟩, ⟨ga, gc, rfl, _, _, lg, hg⟩, ⟨sa, sc, rfl, _, _, ls, hs⟩, ⟨na, nc, rfl, _, _, ln, hn⟩, ⟨pa, pc, rfl, _, _, lp, hp⟩⟩ := hr
  obtain ⟨_, _, z3, z4, _, _, z7⟩ := hx
  have Hn1 := Lib.hid (fun W : World => row_new W [x.verb, starT] 9 (B := x.verb.size + 1) (two_size _))
  have Hn2 := Lib.hid (fun W : World => row_new W [x.group, starT] 9 (B := x.group.size + 1) (two_size _))
  have c1 := fun w h => among_any B va vc r.verbs (by omega) w h
  have c2 := fun w h => Path_any B hB pa pc r.paths (by omega) x.path w h
  have c3 := fun w h => among_any B ga gc r.groups (by omega) w h
  have c4 := fun w h => Resource_any B hB sa sc r.resources (by omega) x.resource x.part z3 z4 w h
  have c5 := fun w h => named_any B na nc r.names (by omega) x.name w h
  have H := Lib.hid (show allowsB r x = (eitherB r.verbs x.verb && (if x.path.toList.isEmpty = true then eitherB r.groups x.group && resB r.resources x.resource x.part && (decide (r.names.length = 0) || (!x.name.toList.isEmpty && among r.names x.name)) else r.paths.any (pathAt x.path))) from rfl)
  have HZ1 := Lib.hid (some_two r.verbs x.verb)
  have HZ2 := Lib.hid (some_two r.groups x.group)
  unfold starT at Hn1 Hn2 HZ1 HZ2
  generalize eitherB r.verbs x.verb = b1 at *
  generalize r.paths.any (pathAt x.path) = b2 at *
  generalize eitherB r.groups x.group = b3 at *
  generalize resB r.resources x.resource x.part = b4 at *
  generalize (decide (r.names.length = 0) || (!x.name.toList.isEmpty && among r.names x.name)) = b5 at *
  have bq := below_new w (.cells #[.slice va r.verbs.length vc, .slice ga r.groups.length gc, .slice sa r.resources.length sc, .slice na r.names.length nc, .slice pa r.paths.length pc] 24)
  have b0 := chain bq (below_new (w.alloc (.cells #[.slice va r.verbs.length vc, .slice ga r.groups.length gc, .slice sa r.resources.length sc, .slice na r.names.length nc, .slice pa r.paths.length pc] 24)) (.cells #[.string x.verb, .string x.group, .string x.resource, .string x.part, .string x.name, .string x.space, .string x.path] 26))
  have RR := Lib.hid (show ∀ W, Below ((w.alloc (.cells #[.slice va r.verbs.length vc, .slice ga r.groups.length gc, .slice sa r.resources.length sc, .slice na r.names.length nc, .slice pa r.paths.length pc] 24)).alloc (.cells #[.string x.verb, .string x.group, .string x.resource, .string x.part, .string x.name, .string x.space, .string x.path] 26)).heap.size ((w.alloc (.cells #[.slice va r.verbs.length vc, .slice ga r.groups.length gc, .slice sa r.resources.length sc, .slice na r.names.length nc, .slice pa r.paths.length pc] 24)).alloc (.cells #[.string x.verb, .string x.group, .string x.resource, .string x.part, .string x.name, .string x.space, .string x.path] 26)) W → RowIn (text B) W va r.verbs ∧ RowIn (text B) W ga r.groups ∧ RowIn (text B) W sa r.resources ∧ RowIn (text B) W na r.names ∧ RowIn (text B) W pa r.paths from fun W h => ⟨hv.later (chain b0 h), hg.later (chain b0 h), hs.later (chain b0 h), hn.later (chain b0 h), hp.later (chain b0 h)⟩)
  have DC := Lib.hid (show ∀ W, Below ((w.alloc (.cells #[.slice va r.verbs.length vc, .slice ga r.groups.length gc, .slice sa r.resources.length sc, .slice na r.names.length nc, .slice pa r.paths.length pc] 24)).alloc (.cells #[.string x.verb, .string x.group, .string x.resource, .string x.part, .string x.name, .string x.space, .string x.path] 26)).heap.size ((w.alloc (.cells #[.slice va r.verbs.length vc, .slice ga r.groups.length gc, .slice sa r.resources.length sc, .slice na r.names.length nc, .slice pa r.paths.length pc] 24)).alloc (.cells #[.string x.verb, .string x.group, .string x.resource, .string x.part, .string x.name, .string x.space, .string x.path] 26)) W → W.cell? ⟨w.heap.size, 0, none⟩ = some (.slice va r.verbs.length vc) ∧ W.cell? ⟨w.heap.size, 1, none⟩ = some (.slice ga r.groups.length gc) ∧ W.cell? ⟨w.heap.size, 2, none⟩ = some (.slice sa r.resources.length sc) ∧ W.cell? ⟨w.heap.size, 3, none⟩ = some (.slice na r.names.length nc) ∧ W.cell? ⟨w.heap.size, 4, none⟩ = some (.slice pa r.paths.length pc) ∧ W.cell? ⟨w.heap.size + 1, 0, none⟩ = some (.string x.verb) ∧ W.cell? ⟨w.heap.size + 1, 1, none⟩ = some (.string x.group) ∧ W.cell? ⟨w.heap.size + 1, 2, none⟩ = some (.string x.resource) ∧ W.cell? ⟨w.heap.size + 1, 3, none⟩ = some (.string x.part) ∧ W.cell? ⟨w.heap.size + 1, 4, none⟩ = some (.string x.name) ∧ W.cell? ⟨w.heap.size + 1, 5, none⟩ = some (.string x.space) ∧ W.cell? ⟨w.heap.size + 1, 6, none⟩ = some (.string x.path) from fun W h => by
    refine ⟨?_, ?_, ?_, ?_, ?_, ?_, ?_, ?_, ?_, ?_, ?_, ?_⟩
    iterate 5 exact (h.cell (by show w.heap.size < _; simp; omega)).trans ((World.cell?_alloc_lt _ _ _ (by show w.heap.size < _; simp)).trans (cell_new _ _ _ _))
    all_goals exact (h.cell (by show w.heap.size + 1 < _; simp)).trans (cell_new2 _ _ _ _ _ _))
  clear hv hg hs hn hp
  cases b1 with
  | false =>
    go_enter Tryd.func16, Tryd.ntmps16
    go_wp2_with fail
    generalize (w.alloc (.cells #[.slice va r.verbs.length vc, .slice ga r.groups.length gc, .slice sa r.resources.length sc, .slice na r.names.length nc, .slice pa r.paths.length pc] 24)).alloc (.cells #[.string x.verb, .string x.group, .string x.resource, .string x.part, .string x.name, .string x.space, .string x.path] 26) = w1 at *
    have bw := Below.refl w1.heap.size w1
    go_cut [12] from 5 to 12 (fun s wc => s = .bool true ∧ Below w1.heap.size w1 wc)
    case first =>
      have Hn := Hn1
      have hq1 := DC.out _ bw.drew
      have hq2 := DC.out _ (below_new w1 (.cells #[.string x.verb, .string ⟨#[42]⟩] 9)).drew
      go_region_held3 (fun w' => w'.cell? ⟨w.heap.size, 0, none⟩ = some (.slice va r.verbs.length vc) ∧ w'.cell? ⟨w.heap.size + 1, 0, none⟩ = some (.string x.verb))
        (first | exact ⟨e3.1, e3.2.2.2.2.2.1⟩ | exact ⟨e2.1, e2.2.2.2.2.2.1⟩ | exact ⟨hq1.1, hq1.2.2.2.2.2.1⟩ | exact ⟨hq2.1, hq2.2.2.2.2.2.1⟩ | exact ⟨(DC.out _ (chain hb2 (below_new w2 (.cells #[.string x.verb, .string ⟨#[42]⟩] 9)))).1, (DC.out _ (chain hb2 (below_new w2 (.cells #[.string x.verb, .string ⟨#[42]⟩] 9)))).2.2.2.2.2.1⟩ | go_keep)
        (first
          | (go_at_call 44
             first
               | (have hbA := drew_below w1
                  refine (c1 _ ((RR.out _ (chain bw hbA)).1)).mono ?_
                  rintro e w2 ⟨k, cap, rfl, hk, hb1⟩
                  have hq := Below.refl w2.heap.size w2)
               | (have hbA := (below_new w1 (.cells #[.string x.verb, .string ⟨#[42]⟩] 9)).drew
                  refine (c1 _ ((RR.out _ (chain bw hbA)).1)).mono ?_
                  rintro e w2 ⟨k, cap, rfl, hk, hb1⟩
                  have hq := (Hn.out w1).later (chain (drew_below _) hb1))
             have ek := hk.1
             have hb2 := chain (chain bw hbA) hb1
             have e2 := DC.out _ hb2)
          | (with_reducible show Calls _ k _ (World.alloc w2 _) _
             have ck := hk.2 (w2.alloc (.cells #[.string x.verb, .string ⟨#[42]⟩] 9)) (x.verb.size + 1) _ 2 [x.verb, ⟨#[42]⟩] (two_len _ _) (below_new _ _) (Hn.out w2)
             rw [HZ1.out] at ck
             refine ck.mono ?_
             rintro e w3 ⟨rfl, hb3⟩
             have hb4 := chain hb2 (chain (below_new w2 (.cells #[.string x.verb, .string ⟨#[42]⟩] 9)) hb3)
             have e3 := DC.out _ hb4)
          | (with_reducible show Calls _ k _ w2 _
             have ck := hk.2 w2 (x.verb.size + 1) _ 2 [x.verb, ⟨#[42]⟩] (two_len _ _) (Below.refl _ _) hq
             rw [HZ1.out] at ck
             refine ck.mono ?_
             rintro e w3 ⟨rfl, hb3⟩
             have hb4 := chain hb2 hb3
             have e3 := DC.out _ hb4)
          | fail)
      all_goals
        go_wp2_with fail
        go_meet
        exact ⟨rfl, hb4⟩
    case rest =>
    obtain ⟨rfl, hbc⟩ := hcut
    obtain ⟨wo, rfl⟩ : ∃ w', w' = wc := ⟨wc, rfl⟩
    obtain ⟨q0, q1, q2, q3, q4, k0, k1, k2, k3, k4, k5, k6⟩ := DC.out _ hbc
    go_wp2
    go_ret
    exact ⟨ret_bool H.out.symm, chain b0 hbc⟩
  | true =>
    cases e0 : x.path.toList.isEmpty with
    | false =>
      have H2 := Lib.hid (show allowsB r x = b2 by rw [H.out, e0]; rfl)
      go_enter Tryd.func16, Tryd.ntmps16
      go_wp2_with fail
      generalize (w.alloc (.cells #[.slice va r.verbs.length vc, .slice ga r.groups.length gc, .slice sa r.resources.length sc, .slice na r.names.length nc, .slice pa r.paths.length pc] 24)).alloc (.cells #[.string x.verb, .string x.group, .string x.resource, .string x.part, .string x.name, .string x.space, .string x.path] 26) = w1 at *
      have bw := Below.refl w1.heap.size w1
      go_cut [12] from 5 to 12 (fun s wc => s = .bool false ∧ Below w1.heap.size w1 wc)
      case first =>
        have Hn := Hn1
        have hq1 := DC.out _ bw.drew
        have hq2 := DC.out _ (below_new w1 (.cells #[.string x.verb, .string ⟨#[42]⟩] 9)).drew
        go_region_held3 (fun w' => w'.cell? ⟨w.heap.size, 0, none⟩ = some (.slice va r.verbs.length vc) ∧ w'.cell? ⟨w.heap.size + 1, 0, none⟩ = some (.string x.verb))
          (first | exact ⟨e3.1, e3.2.2.2.2.2.1⟩ | exact ⟨e2.1, e2.2.2.2.2.2.1⟩ | exact ⟨hq1.1, hq1.2.2.2.2.2.1⟩ | exact ⟨hq2.1, hq2.2.2.2.2.2.1⟩ | exact ⟨(DC.out _ (chain hb2 (below_new w2 (.cells #[.string x.verb, .string ⟨#[42]⟩] 9)))).1, (DC.out _ (chain hb2 (below_new w2 (.cells #[.string x.verb, .string ⟨#[42]⟩] 9)))).2.2.2.2.2.1⟩ | go_keep)
          (first
            | (go_at_call 44
               first
                 | (have hbA := drew_below w1
                    refine (c1 _ ((RR.out _ (chain bw hbA)).1)).mono ?_
                    rintro e w2 ⟨k, cap, rfl, hk, hb1⟩
                    have hq := Below.refl w2.heap.size w2)
                 | (have hbA := (below_new w1 (.cells #[.string x.verb, .string ⟨#[42]⟩] 9)).drew
                    refine (c1 _ ((RR.out _ (chain bw hbA)).1)).mono ?_
                    rintro e w2 ⟨k, cap, rfl, hk, hb1⟩
                    have hq := (Hn.out w1).later (chain (drew_below _) hb1))
               have ek := hk.1
               have hb2 := chain (chain bw hbA) hb1
               have e2 := DC.out _ hb2)
            | (with_reducible show Calls _ k _ (World.alloc w2 _) _
               have ck := hk.2 (w2.alloc (.cells #[.string x.verb, .string ⟨#[42]⟩] 9)) (x.verb.size + 1) _ 2 [x.verb, ⟨#[42]⟩] (two_len _ _) (below_new _ _) (Hn.out w2)
               rw [HZ1.out] at ck
               refine ck.mono ?_
               rintro e w3 ⟨rfl, hb3⟩
               have hb4 := chain hb2 (chain (below_new w2 (.cells #[.string x.verb, .string ⟨#[42]⟩] 9)) hb3)
               have e3 := DC.out _ hb4)
            | (with_reducible show Calls _ k _ w2 _
               have ck := hk.2 w2 (x.verb.size + 1) _ 2 [x.verb, ⟨#[42]⟩] (two_len _ _) (Below.refl _ _) hq
               rw [HZ1.out] at ck
               refine ck.mono ?_
               rintro e w3 ⟨rfl, hb3⟩
               have hb4 := chain hb2 hb3
               have e3 := DC.out _ hb4)
            | fail)
        all_goals
          go_wp2_with fail
          go_meet
          exact ⟨rfl, hb4⟩
      case rest =>
      obtain ⟨rfl, hbc⟩ := hcut
      obtain ⟨wo, rfl⟩ : ∃ w', w' = wc := ⟨wc, rfl⟩
      obtain ⟨q0, q1, q2, q3, q4, k0, k1, k2, k3, k4, k5, k6⟩ := DC.out _ hbc
      go_wp2_with fail
      refine (c2 _ ((RR.out _ hbc).2.2.2.2)).mono ?_
      rintro e w4 ⟨rfl, hb5⟩
      go_wp2
      go_ret
      exact ⟨ret_bool H2.out.symm, chain b0 (chain hbc hb5)⟩
    | true =>
      have H2 := Lib.hid (show allowsB r x = (b3 && b4 && b5) by rw [H.out, e0]; rfl)
      cases b3 with
      | false =>
        go_enter Tryd.func16, Tryd.ntmps16
        go_wp2_with fail
        generalize (w.alloc (.cells #[.slice va r.verbs.length vc, .slice ga r.groups.length gc, .slice sa r.resources.length sc, .slice na r.names.length nc, .slice pa r.paths.length pc] 24)).alloc (.cells #[.string x.verb, .string x.group, .string x.resource, .string x.part, .string x.name, .string x.space, .string x.path] 26) = w1 at *
        have bw := Below.refl w1.heap.size w1
        go_cut [12] from 5 to 12 (fun s wc => s = .bool false ∧ Below w1.heap.size w1 wc)
        case first =>
          have Hn := Hn1
          have hq1 := DC.out _ bw.drew
          have hq2 := DC.out _ (below_new w1 (.cells #[.string x.verb, .string ⟨#[42]⟩] 9)).drew
          go_region_held3 (fun w' => w'.cell? ⟨w.heap.size, 0, none⟩ = some (.slice va r.verbs.length vc) ∧ w'.cell? ⟨w.heap.size + 1, 0, none⟩ = some (.string x.verb))
            (first | exact ⟨e3.1, e3.2.2.2.2.2.1⟩ | exact ⟨e2.1, e2.2.2.2.2.2.1⟩ | exact ⟨hq1.1, hq1.2.2.2.2.2.1⟩ | exact ⟨hq2.1, hq2.2.2.2.2.2.1⟩ | exact ⟨(DC.out _ (chain hb2 (below_new w2 (.cells #[.string x.verb, .string ⟨#[42]⟩] 9)))).1, (DC.out _ (chain hb2 (below_new w2 (.cells #[.string x.verb, .string ⟨#[42]⟩] 9)))).2.2.2.2.2.1⟩ | go_keep)
            (first
              | (go_at_call 44
                 first
                   | (have hbA := drew_below w1
                      refine (c1 _ ((RR.out _ (chain bw hbA)).1)).mono ?_
                      rintro e w2 ⟨k, cap, rfl, hk, hb1⟩
                      have hq := Below.refl w2.heap.size w2)
                   | (have hbA := (below_new w1 (.cells #[.string x.verb, .string ⟨#[42]⟩] 9)).drew
                      refine (c1 _ ((RR.out _ (chain bw hbA)).1)).mono ?_
                      rintro e w2 ⟨k, cap, rfl, hk, hb1⟩
                      have hq := (Hn.out w1).later (chain (drew_below _) hb1))
                 have ek := hk.1
                 have hb2 := chain (chain bw hbA) hb1
                 have e2 := DC.out _ hb2)
              | (with_reducible show Calls _ k _ (World.alloc w2 _) _
                 have ck := hk.2 (w2.alloc (.cells #[.string x.verb, .string ⟨#[42]⟩] 9)) (x.verb.size + 1) _ 2 [x.verb, ⟨#[42]⟩] (two_len _ _) (below_new _ _) (Hn.out w2)
                 rw [HZ1.out] at ck
                 refine ck.mono ?_
                 rintro e w3 ⟨rfl, hb3⟩
                 have hb4 := chain hb2 (chain (below_new w2 (.cells #[.string x.verb, .string ⟨#[42]⟩] 9)) hb3)
                 have e3 := DC.out _ hb4)
              | (with_reducible show Calls _ k _ w2 _
                 have ck := hk.2 w2 (x.verb.size + 1) _ 2 [x.verb, ⟨#[42]⟩] (two_len _ _) (Below.refl _ _) hq
                 rw [HZ1.out] at ck
                 refine ck.mono ?_
                 rintro e w3 ⟨rfl, hb3⟩
                 have hb4 := chain hb2 hb3
                 have e3 := DC.out _ hb4)
              | fail)
          all_goals
            go_wp2_with fail
            go_meet
            exact ⟨rfl, hb4⟩
        case rest =>
        obtain ⟨rfl, hbc⟩ := hcut
        obtain ⟨wo, rfl⟩ : ∃ w', w' = wc := ⟨wc, rfl⟩
        obtain ⟨q0, q1, q2, q3, q4, k0, k1, k2, k3, k4, k5, k6⟩ := DC.out _ hbc
        go_wp2_with fail
        refine wp_region_noPanic ?_
        refine wp_region_held_drew (S := fun w' => w'.cell? ⟨w.heap.size, 0, none⟩ = some (.slice va r.verbs.length vc) ∧ w'.cell? ⟨w.heap.size, 1, none⟩ = some (.slice ga r.groups.length gc) ∧ w'.cell? ⟨w.heap.size, 2, none⟩ = some (.slice sa r.resources.length sc) ∧ w'.cell? ⟨w.heap.size, 3, none⟩ = some (.slice na r.names.length nc) ∧ w'.cell? ⟨w.heap.size, 4, none⟩ = some (.slice pa r.paths.length pc) ∧ w'.cell? ⟨w.heap.size + 1, 0, none⟩ = some (.string x.verb) ∧ w'.cell? ⟨w.heap.size + 1, 1, none⟩ = some (.string x.group) ∧ w'.cell? ⟨w.heap.size + 1, 2, none⟩ = some (.string x.resource) ∧ w'.cell? ⟨w.heap.size + 1, 3, none⟩ = some (.string x.part) ∧ w'.cell? ⟨w.heap.size + 1, 4, none⟩ = some (.string x.name) ∧ w'.cell? ⟨w.heap.size + 1, 5, none⟩ = some (.string x.space) ∧ w'.cell? ⟨w.heap.size + 1, 6, none⟩ = some (.string x.path)) (by kernel_rfl) ?_ (fun hHeld => ?_)
        · exact (DC.out _ hbc.drew)
        refine takeH 0 (d := 21) (v := ?_) rfl (by kernel_rfl) (by kernel_rfl) (by kernel_rfl) noPanic_none (by rfl) hHeld ?_ ?_
        rotate_left
        · (intro w hSw; (try dsimp only at hSw); go_simp; try (with_reducible rfl))
        try simp only [Act.put, List.setIfInBounds_toArray, List.set_cons_zero, List.set_cons_succ]
        refine takeH 1 (d := 22) (v := ?_) rfl (by kernel_rfl) (by kernel_rfl) (by kernel_rfl) noPanic_none (by rfl) hHeld ?_ ?_
        rotate_left
        · (intro w hSw; (try dsimp only at hSw); go_simp; try (with_reducible rfl))
        try simp only [Act.put, List.setIfInBounds_toArray, List.set_cons_zero, List.set_cons_succ]
        refine takeH 3 (d := 24) (v := ?_) rfl (by kernel_rfl) (by kernel_rfl) (by kernel_rfl) noPanic_none (by rfl) hHeld ?_ ?_
        rotate_left
        · (intro w hSw; (try dsimp only at hSw); go_simp; try (with_reducible rfl))
        try simp only [Act.put, List.setIfInBounds_toArray, List.set_cons_zero, List.set_cons_succ]
        refine takeH 4 (d := 25) (v := ?_) rfl (by kernel_rfl) (by kernel_rfl) (by kernel_rfl) noPanic_none (by rfl) hHeld ?_ ?_
        rotate_left
        · (intro w hSw; (try dsimp only at hSw); go_simp; try (with_reducible rfl))
        try simp only [Act.put, List.setIfInBounds_toArray, List.set_cons_zero, List.set_cons_succ]
        refine wpAnyH_ready (rs := [2, 5]) (by kernel_rfl) (by simp) ?_
        refine stepH (i := 2) (d := 23) rfl (by rfl) (fun K hK => ?_) ?_
        · go_simp
          have hbA := drew_below wo
          refine (c3 _ ((RR.out _ (chain hbc hbA)).2.1)).mono ?_
          rintro e w2 ⟨k, cap, rfl, hk, hb1⟩
          have ek := hk.1
          have hb2 := chain (chain hbc hbA) hb1
          refine hK.out _ _ ?_ (fun hHeld => ?_)
          · exact DC.out _ hb2
          clear hK K
          try simp only [Act.put, List.setIfInBounds_toArray, List.set_cons_zero, List.set_cons_succ]
          refine wpAnyH_ready (rs := [5]) (by kernel_rfl) (by simp) ?_
          refine stepH (i := 5) (d := 26) rfl (by rfl) (fun K hK => ?_) ?_
          · go_simp
            refine hK.out _ _ ?_ (fun hHeld => ?_)
            · exact DC.out _ (chain hb2 (below_new _ _))
            clear hK K
            try simp only [Act.put, List.setIfInBounds_toArray, List.set_cons_zero, List.set_cons_succ]
            refine wpAnyH_ready (rs := [6]) (by kernel_rfl) (by simp) ?_
            refine stepH (i := 6) (d := 27) rfl (by rfl) (fun K hK => ?_) ?_
            · go_simp
              have ck := hk.2 (w2.alloc (.cells #[.string x.group, .string ⟨#[42]⟩] 9)) (x.group.size + 1) _ 2 [x.group, ⟨#[42]⟩] (two_len _ _) (below_new _ _) (Hn2.out w2)
              rw [HZ2.out] at ck
              refine ck.mono ?_
              rintro e w3 ⟨rfl, hb3⟩
              have hb4 := chain hb2 (chain (below_new w2 (.cells #[.string x.group, .string ⟨#[42]⟩] 9)) hb3)
              refine hK.out _ _ ?_ (fun hHeld => ?_)
              · exact DC.out _ hb4
              clear hK K
              try simp only [Act.put, List.setIfInBounds_toArray, List.set_cons_zero, List.set_cons_succ]
              refine takeH 7 (d := 28) (v := ?_) rfl (by kernel_rfl) (by kernel_rfl) (by kernel_rfl) noPanic_none (by rfl) hHeld ?_ ?_
              rotate_left
              · (intro w hSw; (try dsimp only at hSw); go_simp; try (with_reducible rfl))
              try simp only [Act.put, List.setIfInBounds_toArray, List.set_cons_zero, List.set_cons_succ]
              refine skipH 8 (d := 29) rfl (by kernel_rfl) (by kernel_rfl) (by kernel_rfl) noPanic_none (by rfl) hHeld ?_
              try simp only [Act.put, List.setIfInBounds_toArray, List.set_cons_zero, List.set_cons_succ]
              refine skipH 9 (d := 30) rfl (by kernel_rfl) (by kernel_rfl) (by kernel_rfl) noPanic_none (by rfl) hHeld ?_
              try simp only [Act.put, List.setIfInBounds_toArray, List.set_cons_zero, List.set_cons_succ]
              refine skipH 10 (d := 31) rfl (by kernel_rfl) (by kernel_rfl) (by kernel_rfl) noPanic_none (by rfl) hHeld ?_
              try simp only [Act.put, List.setIfInBounds_toArray, List.set_cons_zero, List.set_cons_succ]
              refine skipH 11 (d := 32) rfl (by kernel_rfl) (by kernel_rfl) (by kernel_rfl) noPanic_none (by rfl) hHeld ?_
              try simp only [Act.put, List.setIfInBounds_toArray, List.set_cons_zero, List.set_cons_succ]
              refine skipH 12 (d := 33) rfl (by kernel_rfl) (by kernel_rfl) (by kernel_rfl) noPanic_none (by rfl) hHeld ?_
              try simp only [Act.put, List.setIfInBounds_toArray, List.set_cons_zero, List.set_cons_succ]
              refine skipH 13 (d := 34) rfl (by kernel_rfl) (by kernel_rfl) (by kernel_rfl) noPanic_none (by rfl) hHeld ?_
              try simp only [Act.put, List.setIfInBounds_toArray, List.set_cons_zero, List.set_cons_succ]
              refine skipH 14 (d := 35) rfl (by kernel_rfl) (by kernel_rfl) (by kernel_rfl) noPanic_none (by rfl) hHeld ?_
              try simp only [Act.put, List.setIfInBounds_toArray, List.set_cons_zero, List.set_cons_succ]
              refine takeH 15 (d := 36) (v := ?_) rfl (by kernel_rfl) (by kernel_rfl) (by kernel_rfl) noPanic_none (by rfl) hHeld ?_ ?_
              rotate_left
              · (intro w hSw; (try dsimp only at hSw); go_simp; try (with_reducible rfl))
              try simp only [Act.put, List.setIfInBounds_toArray, List.set_cons_zero, List.set_cons_succ]
              refine takeH 16 (d := 37) (v := ?_) rfl (by kernel_rfl) (by kernel_rfl) (by kernel_rfl) noPanic_none (by rfl) hHeld ?_ ?_
              rotate_left
              · (intro w hSw; (try dsimp only at hSw); go_simp; try (with_reducible rfl))
              try simp only [Act.put, List.setIfInBounds_toArray, List.set_cons_zero, List.set_cons_succ]
              refine skipH 17 (d := 38) rfl (by kernel_rfl) (by kernel_rfl) (by kernel_rfl) noPanic_none (by rfl) hHeld ?_
              try simp only [Act.put, List.setIfInBounds_toArray, List.set_cons_zero, List.set_cons_succ]
              refine skipH 18 (d := 39) rfl (by kernel_rfl) (by kernel_rfl) (by kernel_rfl) noPanic_none (by rfl) hHeld ?_
              try simp only [Act.put, List.setIfInBounds_toArray, List.set_cons_zero, List.set_cons_succ]
              refine skipH 19 (d := 40) rfl (by kernel_rfl) (by kernel_rfl) (by kernel_rfl) noPanic_none (by rfl) hHeld ?_
              try simp only [Act.put, List.setIfInBounds_toArray, List.set_cons_zero, List.set_cons_succ]
              refine skipH 20 (d := 41) rfl (by kernel_rfl) (by kernel_rfl) (by kernel_rfl) noPanic_none (by rfl) hHeld ?_
              try simp only [Act.put, List.setIfInBounds_toArray, List.set_cons_zero, List.set_cons_succ]
              refine skipH 21 (d := 42) rfl (by kernel_rfl) (by kernel_rfl) (by kernel_rfl) noPanic_none (by rfl) hHeld ?_
              try simp only [Act.put, List.setIfInBounds_toArray, List.set_cons_zero, List.set_cons_succ]
              refine takeH 22 (d := 43) (v := ?_) rfl (by kernel_rfl) (by kernel_rfl) (by kernel_rfl) noPanic_none (by rfl) hHeld ?_ ?_
              rotate_left
              · (intro w hSw; (try dsimp only at hSw); go_simp; try (with_reducible rfl))
              try simp only [Act.put, List.setIfInBounds_toArray, List.set_cons_zero, List.set_cons_succ]
              refine takeH 23 (d := 4) (v := ?_) rfl (by kernel_rfl) (by kernel_rfl) (by kernel_rfl) noPanic_none (by rfl) hHeld ?_ ?_
              rotate_left
              · (intro w hSw; (try dsimp only at hSw); go_simp; try (with_reducible rfl))
              try simp only [Act.put, List.setIfInBounds_toArray, List.set_cons_zero, List.set_cons_succ]
              refine wpAnyH_done (by kernel_rfl) ?_ _
              refine NoPanic.normal ?_
              go_wp2
              go_ret
              exact ⟨ret_bool (by rw [H2.out]; rfl), chain b0 hb4⟩
            exact AllReadyH.nil
          exact AllReadyH.nil
        refine stepH (i := 5) (d := 26) rfl (by rfl) (fun K hK => ?_) ?_
        · go_simp
          refine hK.out _ _ ?_ (fun hHeld => ?_)
          · exact DC.out _ (chain hbc (below_new wo (.cells #[.string x.group, .string ⟨#[42]⟩] 9)).drew)
          clear hK K
          try simp only [Act.put, List.setIfInBounds_toArray, List.set_cons_zero, List.set_cons_succ]
          refine wpAnyH_ready (rs := [2]) (by kernel_rfl) (by simp) ?_
          refine stepH (i := 2) (d := 23) rfl (by rfl) (fun K hK => ?_) ?_
          · go_simp
            have hbA := (below_new wo (.cells #[.string x.group, .string ⟨#[42]⟩] 9)).drew
            refine (c3 _ ((RR.out _ (chain hbc hbA)).2.1)).mono ?_
            rintro e w2 ⟨k, cap, rfl, hk, hb1⟩
            have ek := hk.1
            have hb2 := chain (chain hbc hbA) hb1
            have hq := (Hn2.out wo).later (chain (drew_below _) hb1)
            refine hK.out _ _ ?_ (fun hHeld => ?_)
            · exact DC.out _ hb2
            clear hK K
            try simp only [Act.put, List.setIfInBounds_toArray, List.set_cons_zero, List.set_cons_succ]
            refine wpAnyH_ready (rs := [6]) (by kernel_rfl) (by simp) ?_
            refine stepH (i := 6) (d := 27) rfl (by rfl) (fun K hK => ?_) ?_
            · go_simp
              have ck := hk.2 w2 (x.group.size + 1) _ 2 [x.group, ⟨#[42]⟩] (two_len _ _) (Below.refl _ _) hq
              rw [HZ2.out] at ck
              refine ck.mono ?_
              rintro e w3 ⟨rfl, hb3⟩
              have hb4 := chain hb2 hb3
              refine hK.out _ _ ?_ (fun hHeld => ?_)
              · exact DC.out _ hb4
              clear hK K
              try simp only [Act.put, List.setIfInBounds_toArray, List.set_cons_zero, List.set_cons_succ]
              refine takeH 7 (d := 28) (v := ?_) rfl (by kernel_rfl) (by kernel_rfl) (by kernel_rfl) noPanic_none (by rfl) hHeld ?_ ?_
              rotate_left
              · (intro w hSw; (try dsimp only at hSw); go_simp; try (with_reducible rfl))
              try simp only [Act.put, List.setIfInBounds_toArray, List.set_cons_zero, List.set_cons_succ]
              refine skipH 8 (d := 29) rfl (by kernel_rfl) (by kernel_rfl) (by kernel_rfl) noPanic_none (by rfl) hHeld ?_
              try simp only [Act.put, List.setIfInBounds_toArray, List.set_cons_zero, List.set_cons_succ]
              refine skipH 9 (d := 30) rfl (by kernel_rfl) (by kernel_rfl) (by kernel_rfl) noPanic_none (by rfl) hHeld ?_
              try simp only [Act.put, List.setIfInBounds_toArray, List.set_cons_zero, List.set_cons_succ]
              refine skipH 10 (d := 31) rfl (by kernel_rfl) (by kernel_rfl) (by kernel_rfl) noPanic_none (by rfl) hHeld ?_
              try simp only [Act.put, List.setIfInBounds_toArray, List.set_cons_zero, List.set_cons_succ]
              refine skipH 11 (d := 32) rfl (by kernel_rfl) (by kernel_rfl) (by kernel_rfl) noPanic_none (by rfl) hHeld ?_
              try simp only [Act.put, List.setIfInBounds_toArray, List.set_cons_zero, List.set_cons_succ]
              refine skipH 12 (d := 33) rfl (by kernel_rfl) (by kernel_rfl) (by kernel_rfl) noPanic_none (by rfl) hHeld ?_
              try simp only [Act.put, List.setIfInBounds_toArray, List.set_cons_zero, List.set_cons_succ]
              refine skipH 13 (d := 34) rfl (by kernel_rfl) (by kernel_rfl) (by kernel_rfl) noPanic_none (by rfl) hHeld ?_
              try simp only [Act.put, List.setIfInBounds_toArray, List.set_cons_zero, List.set_cons_succ]
              refine skipH 14 (d := 35) rfl (by kernel_rfl) (by kernel_rfl) (by kernel_rfl) noPanic_none (by rfl) hHeld ?_
              try simp only [Act.put, List.setIfInBounds_toArray, List.set_cons_zero, List.set_cons_succ]
              refine takeH 15 (d := 36) (v := ?_) rfl (by kernel_rfl) (by kernel_rfl) (by kernel_rfl) noPanic_none (by rfl) hHeld ?_ ?_
              rotate_left
              · (intro w hSw; (try dsimp only at hSw); go_simp; try (with_reducible rfl))
              try simp only [Act.put, List.setIfInBounds_toArray, List.set_cons_zero, List.set_cons_succ]
              refine takeH 16 (d := 37) (v := ?_) rfl (by kernel_rfl) (by kernel_rfl) (by kernel_rfl) noPanic_none (by rfl) hHeld ?_ ?_
              rotate_left
              · (intro w hSw; (try dsimp only at hSw); go_simp; try (with_reducible rfl))
              try simp only [Act.put, List.setIfInBounds_toArray, List.set_cons_zero, List.set_cons_succ]
              refine skipH 17 (d := 38) rfl (by kernel_rfl) (by kernel_rfl) (by kernel_rfl) noPanic_none (by rfl) hHeld ?_
              try simp only [Act.put, List.setIfInBounds_toArray, List.set_cons_zero, List.set_cons_succ]
              refine skipH 18 (d := 39) rfl (by kernel_rfl) (by kernel_rfl) (by kernel_rfl) noPanic_none (by rfl) hHeld ?_
              try simp only [Act.put, List.setIfInBounds_toArray, List.set_cons_zero, List.set_cons_succ]
              refine skipH 19 (d := 40) rfl (by kernel_rfl) (by kernel_rfl) (by kernel_rfl) noPanic_none (by rfl) hHeld ?_
              try simp only [Act.put, List.setIfInBounds_toArray, List.set_cons_zero, List.set_cons_succ]
              refine skipH 20 (d := 41) rfl (by kernel_rfl) (by kernel_rfl) (by kernel_rfl) noPanic_none (by rfl) hHeld ?_
              try simp only [Act.put, List.setIfInBounds_toArray, List.set_cons_zero, List.set_cons_succ]
              refine skipH 21 (d := 42) rfl (by kernel_rfl) (by kernel_rfl) (by kernel_rfl) noPanic_none (by rfl) hHeld ?_
              try simp only [Act.put, List.setIfInBounds_toArray, List.set_cons_zero, List.set_cons_succ]
              refine takeH 22 (d := 43) (v := ?_) rfl (by kernel_rfl) (by kernel_rfl) (by kernel_rfl) noPanic_none (by rfl) hHeld ?_ ?_
              rotate_left
              · (intro w hSw; (try dsimp only at hSw); go_simp; try (with_reducible rfl))
              try simp only [Act.put, List.setIfInBounds_toArray, List.set_cons_zero, List.set_cons_succ]
              refine takeH 23 (d := 4) (v := ?_) rfl (by kernel_rfl) (by kernel_rfl) (by kernel_rfl) noPanic_none (by rfl) hHeld ?_ ?_
              rotate_left
              · (intro w hSw; (try dsimp only at hSw); go_simp; try (with_reducible rfl))
              try simp only [Act.put, List.setIfInBounds_toArray, List.set_cons_zero, List.set_cons_succ]
              refine wpAnyH_done (by kernel_rfl) ?_ _
              refine NoPanic.normal ?_
              go_wp2
              go_ret
              exact ⟨ret_bool (by rw [H2.out]; rfl), chain b0 hb4⟩
            exact AllReadyH.nil
          exact AllReadyH.nil
        exact AllReadyH.nil
      | true =>
        cases b4 with
        | false =>
          go_enter Tryd.func16, Tryd.ntmps16
          go_wp2_with fail
          generalize (w.alloc (.cells #[.slice va r.verbs.length vc, .slice ga r.groups.length gc, .slice sa r.resources.length sc, .slice na r.names.length nc, .slice pa r.paths.length pc] 24)).alloc (.cells #[.string x.verb, .string x.group, .string x.resource, .string x.part, .string x.name, .string x.space, .string x.path] 26) = w1 at *
          have bw := Below.refl w1.heap.size w1
          go_cut [12] from 5 to 12 (fun s wc => s = .bool false ∧ Below w1.heap.size w1 wc)
          case first =>
            have Hn := Hn1
            have hq1 := DC.out _ bw.drew
            have hq2 := DC.out _ (below_new w1 (.cells #[.string x.verb, .string ⟨#[42]⟩] 9)).drew
            go_region_held3 (fun w' => w'.cell? ⟨w.heap.size, 0, none⟩ = some (.slice va r.verbs.length vc) ∧ w'.cell? ⟨w.heap.size + 1, 0, none⟩ = some (.string x.verb))
              (first | exact ⟨e3.1, e3.2.2.2.2.2.1⟩ | exact ⟨e2.1, e2.2.2.2.2.2.1⟩ | exact ⟨hq1.1, hq1.2.2.2.2.2.1⟩ | exact ⟨hq2.1, hq2.2.2.2.2.2.1⟩ | exact ⟨(DC.out _ (chain hb2 (below_new w2 (.cells #[.string x.verb, .string ⟨#[42]⟩] 9)))).1, (DC.out _ (chain hb2 (below_new w2 (.cells #[.string x.verb, .string ⟨#[42]⟩] 9)))).2.2.2.2.2.1⟩ | go_keep)
              (first
                | (go_at_call 44
                   first
                     | (have hbA := drew_below w1
                        refine (c1 _ ((RR.out _ (chain bw hbA)).1)).mono ?_
                        rintro e w2 ⟨k, cap, rfl, hk, hb1⟩
                        have hq := Below.refl w2.heap.size w2)
                     | (have hbA := (below_new w1 (.cells #[.string x.verb, .string ⟨#[42]⟩] 9)).drew
                        refine (c1 _ ((RR.out _ (chain bw hbA)).1)).mono ?_
                        rintro e w2 ⟨k, cap, rfl, hk, hb1⟩
                        have hq := (Hn.out w1).later (chain (drew_below _) hb1))
                   have ek := hk.1
                   have hb2 := chain (chain bw hbA) hb1
                   have e2 := DC.out _ hb2)
                | (with_reducible show Calls _ k _ (World.alloc w2 _) _
                   have ck := hk.2 (w2.alloc (.cells #[.string x.verb, .string ⟨#[42]⟩] 9)) (x.verb.size + 1) _ 2 [x.verb, ⟨#[42]⟩] (two_len _ _) (below_new _ _) (Hn.out w2)
                   rw [HZ1.out] at ck
                   refine ck.mono ?_
                   rintro e w3 ⟨rfl, hb3⟩
                   have hb4 := chain hb2 (chain (below_new w2 (.cells #[.string x.verb, .string ⟨#[42]⟩] 9)) hb3)
                   have e3 := DC.out _ hb4)
                | (with_reducible show Calls _ k _ w2 _
                   have ck := hk.2 w2 (x.verb.size + 1) _ 2 [x.verb, ⟨#[42]⟩] (two_len _ _) (Below.refl _ _) hq
                   rw [HZ1.out] at ck
                   refine ck.mono ?_
                   rintro e w3 ⟨rfl, hb3⟩
                   have hb4 := chain hb2 hb3
                   have e3 := DC.out _ hb4)
                | fail)
            all_goals
              go_wp2_with fail
              go_meet
              exact ⟨rfl, hb4⟩
          case rest =>
          obtain ⟨rfl, hbc⟩ := hcut
          obtain ⟨wo, rfl⟩ : ∃ w', w' = wc := ⟨wc, rfl⟩
          obtain ⟨q0, q1, q2, q3, q4, k0, k1, k2, k3, k4, k5, k6⟩ := DC.out _ hbc
          go_wp2_with fail
          refine wp_region_noPanic ?_
          refine wp_region_held_drew (S := fun w' => w'.cell? ⟨w.heap.size, 0, none⟩ = some (.slice va r.verbs.length vc) ∧ w'.cell? ⟨w.heap.size, 1, none⟩ = some (.slice ga r.groups.length gc) ∧ w'.cell? ⟨w.heap.size, 2, none⟩ = some (.slice sa r.resources.length sc) ∧ w'.cell? ⟨w.heap.size, 3, none⟩ = some (.slice na r.names.length nc) ∧ w'.cell? ⟨w.heap.size, 4, none⟩ = some (.slice pa r.paths.length pc) ∧ w'.cell? ⟨w.heap.size + 1, 0, none⟩ = some (.string x.verb) ∧ w'.cell? ⟨w.heap.size + 1, 1, none⟩ = some (.string x.group) ∧ w'.cell? ⟨w.heap.size + 1, 2, none⟩ = some (.string x.resource) ∧ w'.cell? ⟨w.heap.size + 1, 3, none⟩ = some (.string x.part) ∧ w'.cell? ⟨w.heap.size + 1, 4, none⟩ = some (.string x.name) ∧ w'.cell? ⟨w.heap.size + 1, 5, none⟩ = some (.string x.space) ∧ w'.cell? ⟨w.heap.size + 1, 6, none⟩ = some (.string x.path)) (by kernel_rfl) ?_ (fun hHeld => ?_)
          · exact (DC.out _ hbc.drew)
          refine takeH 0 (d := 21) (v := ?_) rfl (by kernel_rfl) (by kernel_rfl) (by kernel_rfl) noPanic_none (by rfl) hHeld ?_ ?_
          rotate_left
          · (intro w hSw; (try dsimp only at hSw); go_simp; try (with_reducible rfl))
          try simp only [Act.put, List.setIfInBounds_toArray, List.set_cons_zero, List.set_cons_succ]
          refine takeH 1 (d := 22) (v := ?_) rfl (by kernel_rfl) (by kernel_rfl) (by kernel_rfl) noPanic_none (by rfl) hHeld ?_ ?_
          rotate_left
          · (intro w hSw; (try dsimp only at hSw); go_simp; try (with_reducible rfl))
          try simp only [Act.put, List.setIfInBounds_toArray, List.set_cons_zero, List.set_cons_succ]
          refine takeH 3 (d := 24) (v := ?_) rfl (by kernel_rfl) (by kernel_rfl) (by kernel_rfl) noPanic_none (by rfl) hHeld ?_ ?_
          rotate_left
          · (intro w hSw; (try dsimp only at hSw); go_simp; try (with_reducible rfl))
          try simp only [Act.put, List.setIfInBounds_toArray, List.set_cons_zero, List.set_cons_succ]
          refine takeH 4 (d := 25) (v := ?_) rfl (by kernel_rfl) (by kernel_rfl) (by kernel_rfl) noPanic_none (by rfl) hHeld ?_ ?_
          rotate_left
          · (intro w hSw; (try dsimp only at hSw); go_simp; try (with_reducible rfl))
          try simp only [Act.put, List.setIfInBounds_toArray, List.set_cons_zero, List.set_cons_succ]
          refine wpAnyH_ready (rs := [2, 5]) (by kernel_rfl) (by simp) ?_
          refine stepH (i := 2) (d := 23) rfl (by rfl) (fun K hK => ?_) ?_
          · go_simp
            have hbA := drew_below wo
            refine (c3 _ ((RR.out _ (chain hbc hbA)).2.1)).mono ?_
            rintro e w2 ⟨k, cap, rfl, hk, hb1⟩
            have ek := hk.1
            have hb2 := chain (chain hbc hbA) hb1
            refine hK.out _ _ ?_ (fun hHeld => ?_)
            · exact DC.out _ hb2
            clear hK K
            try simp only [Act.put, List.setIfInBounds_toArray, List.set_cons_zero, List.set_cons_succ]
            refine wpAnyH_ready (rs := [5]) (by kernel_rfl) (by simp) ?_
            refine stepH (i := 5) (d := 26) rfl (by rfl) (fun K hK => ?_) ?_
            · go_simp
              refine hK.out _ _ ?_ (fun hHeld => ?_)
              · exact DC.out _ (chain hb2 (below_new _ _))
              clear hK K
              try simp only [Act.put, List.setIfInBounds_toArray, List.set_cons_zero, List.set_cons_succ]
              refine wpAnyH_ready (rs := [6]) (by kernel_rfl) (by simp) ?_
              refine stepH (i := 6) (d := 27) rfl (by rfl) (fun K hK => ?_) ?_
              · go_simp
                have ck := hk.2 (w2.alloc (.cells #[.string x.group, .string ⟨#[42]⟩] 9)) (x.group.size + 1) _ 2 [x.group, ⟨#[42]⟩] (two_len _ _) (below_new _ _) (Hn2.out w2)
                rw [HZ2.out] at ck
                refine ck.mono ?_
                rintro e w3 ⟨rfl, hb3⟩
                have hb4 := chain hb2 (chain (below_new w2 (.cells #[.string x.group, .string ⟨#[42]⟩] 9)) hb3)
                refine hK.out _ _ ?_ (fun hHeld => ?_)
                · exact DC.out _ hb4
                clear hK K
                try simp only [Act.put, List.setIfInBounds_toArray, List.set_cons_zero, List.set_cons_succ]
                refine takeH 7 (d := 28) (v := ?_) rfl (by kernel_rfl) (by kernel_rfl) (by kernel_rfl) noPanic_none (by rfl) hHeld ?_ ?_
                rotate_left
                · (intro w hSw; (try dsimp only at hSw); go_simp; try (with_reducible rfl))
                try simp only [Act.put, List.setIfInBounds_toArray, List.set_cons_zero, List.set_cons_succ]
                refine takeH 8 (d := 29) (v := ?_) rfl (by kernel_rfl) (by kernel_rfl) (by kernel_rfl) noPanic_none (by rfl) hHeld ?_ ?_
                rotate_left
                · (intro w hSw; (try dsimp only at hSw); go_simp; try (with_reducible rfl))
                try simp only [Act.put, List.setIfInBounds_toArray, List.set_cons_zero, List.set_cons_succ]
                refine takeH 9 (d := 30) (v := ?_) rfl (by kernel_rfl) (by kernel_rfl) (by kernel_rfl) noPanic_none (by rfl) hHeld ?_ ?_
                rotate_left
                · (intro w hSw; (try dsimp only at hSw); go_simp; try (with_reducible rfl))
                try simp only [Act.put, List.setIfInBounds_toArray, List.set_cons_zero, List.set_cons_succ]
                refine takeH 10 (d := 31) (v := ?_) rfl (by kernel_rfl) (by kernel_rfl) (by kernel_rfl) noPanic_none (by rfl) hHeld ?_ ?_
                rotate_left
                · (intro w hSw; (try dsimp only at hSw); go_simp; try (with_reducible rfl))
                try simp only [Act.put, List.setIfInBounds_toArray, List.set_cons_zero, List.set_cons_succ]
                refine takeH 11 (d := 32) (v := ?_) rfl (by kernel_rfl) (by kernel_rfl) (by kernel_rfl) noPanic_none (by rfl) hHeld ?_ ?_
                rotate_left
                · (intro w hSw; (try dsimp only at hSw); go_simp; try (with_reducible rfl))
                try simp only [Act.put, List.setIfInBounds_toArray, List.set_cons_zero, List.set_cons_succ]
                refine takeH 12 (d := 33) (v := ?_) rfl (by kernel_rfl) (by kernel_rfl) (by kernel_rfl) noPanic_none (by rfl) hHeld ?_ ?_
                rotate_left
                · (intro w hSw; (try dsimp only at hSw); go_simp; try (with_reducible rfl))
                try simp only [Act.put, List.setIfInBounds_toArray, List.set_cons_zero, List.set_cons_succ]
                refine takeH 13 (d := 34) (v := ?_) rfl (by kernel_rfl) (by kernel_rfl) (by kernel_rfl) noPanic_none (by rfl) hHeld ?_ ?_
                rotate_left
                · (intro w hSw; (try dsimp only at hSw); go_simp; try (with_reducible rfl))
                try simp only [Act.put, List.setIfInBounds_toArray, List.set_cons_zero, List.set_cons_succ]
                refine wpAnyH_ready (rs := [14]) (by kernel_rfl) (by simp) ?_
                refine stepH (i := 14) (d := 35) rfl (by rfl) (fun K hK => ?_) ?_
                · go_simp
                  refine (c4 _ ((RR.out _ hb4).2.2.1)).mono ?_
                  rintro e w5 ⟨rfl, hb5⟩
                  have hb6 := chain hb4 hb5
                  refine hK.out _ _ ?_ (fun hHeld => ?_)
                  · exact DC.out _ hb6
                  clear hK K
                  try simp only [Act.put, List.setIfInBounds_toArray, List.set_cons_zero, List.set_cons_succ]
                  refine takeH 15 (d := 36) (v := ?_) rfl (by kernel_rfl) (by kernel_rfl) (by kernel_rfl) noPanic_none (by rfl) hHeld ?_ ?_
                  rotate_left
                  · (intro w hSw; (try dsimp only at hSw); go_simp; try (with_reducible rfl))
                  try simp only [Act.put, List.setIfInBounds_toArray, List.set_cons_zero, List.set_cons_succ]
                  refine takeH 16 (d := 37) (v := ?_) rfl (by kernel_rfl) (by kernel_rfl) (by kernel_rfl) noPanic_none (by rfl) hHeld ?_ ?_
                  rotate_left
                  · (intro w hSw; (try dsimp only at hSw); go_simp; try (with_reducible rfl))
                  try simp only [Act.put, List.setIfInBounds_toArray, List.set_cons_zero, List.set_cons_succ]
                  refine skipH 17 (d := 38) rfl (by kernel_rfl) (by kernel_rfl) (by kernel_rfl) noPanic_none (by rfl) hHeld ?_
                  try simp only [Act.put, List.setIfInBounds_toArray, List.set_cons_zero, List.set_cons_succ]
                  refine skipH 18 (d := 39) rfl (by kernel_rfl) (by kernel_rfl) (by kernel_rfl) noPanic_none (by rfl) hHeld ?_
                  try simp only [Act.put, List.setIfInBounds_toArray, List.set_cons_zero, List.set_cons_succ]
                  refine skipH 19 (d := 40) rfl (by kernel_rfl) (by kernel_rfl) (by kernel_rfl) noPanic_none (by rfl) hHeld ?_
                  try simp only [Act.put, List.setIfInBounds_toArray, List.set_cons_zero, List.set_cons_succ]
                  refine skipH 20 (d := 41) rfl (by kernel_rfl) (by kernel_rfl) (by kernel_rfl) noPanic_none (by rfl) hHeld ?_
                  try simp only [Act.put, List.setIfInBounds_toArray, List.set_cons_zero, List.set_cons_succ]
                  refine skipH 21 (d := 42) rfl (by kernel_rfl) (by kernel_rfl) (by kernel_rfl) noPanic_none (by rfl) hHeld ?_
                  try simp only [Act.put, List.setIfInBounds_toArray, List.set_cons_zero, List.set_cons_succ]
                  refine takeH 22 (d := 43) (v := ?_) rfl (by kernel_rfl) (by kernel_rfl) (by kernel_rfl) noPanic_none (by rfl) hHeld ?_ ?_
                  rotate_left
                  · (intro w hSw; (try dsimp only at hSw); go_simp; try (with_reducible rfl))
                  try simp only [Act.put, List.setIfInBounds_toArray, List.set_cons_zero, List.set_cons_succ]
                  refine takeH 23 (d := 4) (v := ?_) rfl (by kernel_rfl) (by kernel_rfl) (by kernel_rfl) noPanic_none (by rfl) hHeld ?_ ?_
                  rotate_left
                  · (intro w hSw; (try dsimp only at hSw); go_simp; try (with_reducible rfl))
                  try simp only [Act.put, List.setIfInBounds_toArray, List.set_cons_zero, List.set_cons_succ]
                  refine wpAnyH_done (by kernel_rfl) ?_ _
                  refine NoPanic.normal ?_
                  go_wp2
                  go_ret
                  exact ⟨ret_bool (by rw [H2.out]; rfl), chain b0 hb6⟩
                exact AllReadyH.nil
              exact AllReadyH.nil
            exact AllReadyH.nil
          refine stepH (i := 5) (d := 26) rfl (by rfl) (fun K hK => ?_) ?_
          · go_simp
            refine hK.out _ _ ?_ (fun hHeld => ?_)
            · exact DC.out _ (chain hbc (below_new wo (.cells #[.string x.group, .string ⟨#[42]⟩] 9)).drew)
            clear hK K
            try simp only [Act.put, List.setIfInBounds_toArray, List.set_cons_zero, List.set_cons_succ]
            refine wpAnyH_ready (rs := [2]) (by kernel_rfl) (by simp) ?_
            refine stepH (i := 2) (d := 23) rfl (by rfl) (fun K hK => ?_) ?_
            · go_simp
              have hbA := (below_new wo (.cells #[.string x.group, .string ⟨#[42]⟩] 9)).drew
              refine (c3 _ ((RR.out _ (chain hbc hbA)).2.1)).mono ?_
              rintro e w2 ⟨k, cap, rfl, hk, hb1⟩
              have ek := hk.1
              have hb2 := chain (chain hbc hbA) hb1
              have hq := (Hn2.out wo).later (chain (drew_below _) hb1)
              refine hK.out _ _ ?_ (fun hHeld => ?_)
              · exact DC.out _ hb2
              clear hK K
              try simp only [Act.put, List.setIfInBounds_toArray, List.set_cons_zero, List.set_cons_succ]
              refine wpAnyH_ready (rs := [6]) (by kernel_rfl) (by simp) ?_
              refine stepH (i := 6) (d := 27) rfl (by rfl) (fun K hK => ?_) ?_
              · go_simp
                have ck := hk.2 w2 (x.group.size + 1) _ 2 [x.group, ⟨#[42]⟩] (two_len _ _) (Below.refl _ _) hq
                rw [HZ2.out] at ck
                refine ck.mono ?_
                rintro e w3 ⟨rfl, hb3⟩
                have hb4 := chain hb2 hb3
                refine hK.out _ _ ?_ (fun hHeld => ?_)
                · exact DC.out _ hb4
                clear hK K
                try simp only [Act.put, List.setIfInBounds_toArray, List.set_cons_zero, List.set_cons_succ]
                refine takeH 7 (d := 28) (v := ?_) rfl (by kernel_rfl) (by kernel_rfl) (by kernel_rfl) noPanic_none (by rfl) hHeld ?_ ?_
                rotate_left
                · (intro w hSw; (try dsimp only at hSw); go_simp; try (with_reducible rfl))
                try simp only [Act.put, List.setIfInBounds_toArray, List.set_cons_zero, List.set_cons_succ]
                refine takeH 8 (d := 29) (v := ?_) rfl (by kernel_rfl) (by kernel_rfl) (by kernel_rfl) noPanic_none (by rfl) hHeld ?_ ?_
                rotate_left
                · (intro w hSw; (try dsimp only at hSw); go_simp; try (with_reducible rfl))
                try simp only [Act.put, List.setIfInBounds_toArray, List.set_cons_zero, List.set_cons_succ]
                refine takeH 9 (d := 30) (v := ?_) rfl (by kernel_rfl) (by kernel_rfl) (by kernel_rfl) noPanic_none (by rfl) hHeld ?_ ?_
                rotate_left
                · (intro w hSw; (try dsimp only at hSw); go_simp; try (with_reducible rfl))
                try simp only [Act.put, List.setIfInBounds_toArray, List.set_cons_zero, List.set_cons_succ]
                refine takeH 10 (d := 31) (v := ?_) rfl (by kernel_rfl) (by kernel_rfl) (by kernel_rfl) noPanic_none (by rfl) hHeld ?_ ?_
                rotate_left
                · (intro w hSw; (try dsimp only at hSw); go_simp; try (with_reducible rfl))
                try simp only [Act.put, List.setIfInBounds_toArray, List.set_cons_zero, List.set_cons_succ]
                refine takeH 11 (d := 32) (v := ?_) rfl (by kernel_rfl) (by kernel_rfl) (by kernel_rfl) noPanic_none (by rfl) hHeld ?_ ?_
                rotate_left
                · (intro w hSw; (try dsimp only at hSw); go_simp; try (with_reducible rfl))
                try simp only [Act.put, List.setIfInBounds_toArray, List.set_cons_zero, List.set_cons_succ]
                refine takeH 12 (d := 33) (v := ?_) rfl (by kernel_rfl) (by kernel_rfl) (by kernel_rfl) noPanic_none (by rfl) hHeld ?_ ?_
                rotate_left
                · (intro w hSw; (try dsimp only at hSw); go_simp; try (with_reducible rfl))
                try simp only [Act.put, List.setIfInBounds_toArray, List.set_cons_zero, List.set_cons_succ]
                refine takeH 13 (d := 34) (v := ?_) rfl (by kernel_rfl) (by kernel_rfl) (by kernel_rfl) noPanic_none (by rfl) hHeld ?_ ?_
                rotate_left
                · (intro w hSw; (try dsimp only at hSw); go_simp; try (with_reducible rfl))
                try simp only [Act.put, List.setIfInBounds_toArray, List.set_cons_zero, List.set_cons_succ]
                refine wpAnyH_ready (rs := [14]) (by kernel_rfl) (by simp) ?_
                refine stepH (i := 14) (d := 35) rfl (by rfl) (fun K hK => ?_) ?_
                · go_simp
                  refine (c4 _ ((RR.out _ hb4).2.2.1)).mono ?_
                  rintro e w5 ⟨rfl, hb5⟩
                  have hb6 := chain hb4 hb5
                  refine hK.out _ _ ?_ (fun hHeld => ?_)
                  · exact DC.out _ hb6
                  clear hK K
                  try simp only [Act.put, List.setIfInBounds_toArray, List.set_cons_zero, List.set_cons_succ]
                  refine takeH 15 (d := 36) (v := ?_) rfl (by kernel_rfl) (by kernel_rfl) (by kernel_rfl) noPanic_none (by rfl) hHeld ?_ ?_
                  rotate_left
                  · (intro w hSw; (try dsimp only at hSw); go_simp; try (with_reducible rfl))
                  try simp only [Act.put, List.setIfInBounds_toArray, List.set_cons_zero, List.set_cons_succ]
                  refine takeH 16 (d := 37) (v := ?_) rfl (by kernel_rfl) (by kernel_rfl) (by kernel_rfl) noPanic_none (by rfl) hHeld ?_ ?_
                  rotate_left
                  · (intro w hSw; (try dsimp only at hSw); go_simp; try (with_reducible rfl))
                  try simp only [Act.put, List.setIfInBounds_toArray, List.set_cons_zero, List.set_cons_succ]
                  refine skipH 17 (d := 38) rfl (by kernel_rfl) (by kernel_rfl) (by kernel_rfl) noPanic_none (by rfl) hHeld ?_
                  try simp only [Act.put, List.setIfInBounds_toArray, List.set_cons_zero, List.set_cons_succ]
                  refine skipH 18 (d := 39) rfl (by kernel_rfl) (by kernel_rfl) (by kernel_rfl) noPanic_none (by rfl) hHeld ?_
                  try simp only [Act.put, List.setIfInBounds_toArray, List.set_cons_zero, List.set_cons_succ]
                  refine skipH 19 (d := 40) rfl (by kernel_rfl) (by kernel_rfl) (by kernel_rfl) noPanic_none (by rfl) hHeld ?_
                  try simp only [Act.put, List.setIfInBounds_toArray, List.set_cons_zero, List.set_cons_succ]
                  refine skipH 20 (d := 41) rfl (by kernel_rfl) (by kernel_rfl) (by kernel_rfl) noPanic_none (by rfl) hHeld ?_
                  try simp only [Act.put, List.setIfInBounds_toArray, List.set_cons_zero, List.set_cons_succ]
                  refine skipH 21 (d := 42) rfl (by kernel_rfl) (by kernel_rfl) (by kernel_rfl) noPanic_none (by rfl) hHeld ?_
                  try simp only [Act.put, List.setIfInBounds_toArray, List.set_cons_zero, List.set_cons_succ]
                  refine takeH 22 (d := 43) (v := ?_) rfl (by kernel_rfl) (by kernel_rfl) (by kernel_rfl) noPanic_none (by rfl) hHeld ?_ ?_
                  rotate_left
                  · (intro w hSw; (try dsimp only at hSw); go_simp; try (with_reducible rfl))
                  try simp only [Act.put, List.setIfInBounds_toArray, List.set_cons_zero, List.set_cons_succ]
                  refine takeH 23 (d := 4) (v := ?_) rfl (by kernel_rfl) (by kernel_rfl) (by kernel_rfl) noPanic_none (by rfl) hHeld ?_ ?_
                  rotate_left
                  · (intro w hSw; (try dsimp only at hSw); go_simp; try (with_reducible rfl))
                  try simp only [Act.put, List.setIfInBounds_toArray, List.set_cons_zero, List.set_cons_succ]
                  refine wpAnyH_done (by kernel_rfl) ?_ _
                  refine NoPanic.normal ?_
                  go_wp2
                  go_ret
                  exact ⟨ret_bool (by rw [H2.out]; rfl), chain b0 hb6⟩
                exact AllReadyH.nil
              exact AllReadyH.nil
            exact AllReadyH.nil
          exact AllReadyH.nil
        | true =>
          go_enter Tryd.func16, Tryd.ntmps16
          go_wp2_with fail
          generalize (w.alloc (.cells #[.slice va r.verbs.length vc, .slice ga r.groups.length gc, .slice sa r.resources.length sc, .slice na r.names.length nc, .slice pa r.paths.length pc] 24)).alloc (.cells #[.string x.verb, .string x.group, .string x.resource, .string x.part, .string x.name, .string x.space, .string x.path] 26) = w1 at *
          have bw := Below.refl w1.heap.size w1
          go_cut [12] from 5 to 12 (fun s wc => s = .bool false ∧ Below w1.heap.size w1 wc)
          case first =>
            have Hn := Hn1
            have hq1 := DC.out _ bw.drew
            have hq2 := DC.out _ (below_new w1 (.cells #[.string x.verb, .string ⟨#[42]⟩] 9)).drew
            go_region_held3 (fun w' => w'.cell? ⟨w.heap.size, 0, none⟩ = some (.slice va r.verbs.length vc) ∧ w'.cell? ⟨w.heap.size + 1, 0, none⟩ = some (.string x.verb))
              (first | exact ⟨e3.1, e3.2.2.2.2.2.1⟩ | exact ⟨e2.1, e2.2.2.2.2.2.1⟩ | exact ⟨hq1.1, hq1.2.2.2.2.2.1⟩ | exact ⟨hq2.1, hq2.2.2.2.2.2.1⟩ | exact ⟨(DC.out _ (chain hb2 (below_new w2 (.cells #[.string x.verb, .string ⟨#[42]⟩] 9)))).1, (DC.out _ (chain hb2 (below_new w2 (.cells #[.string x.verb, .string ⟨#[42]⟩] 9)))).2.2.2.2.2.1⟩ | go_keep)
              (first
                | (go_at_call 44
                   first
                     | (have hbA := drew_below w1
                        refine (c1 _ ((RR.out _ (chain bw hbA)).1)).mono ?_
                        rintro e w2 ⟨k, cap, rfl, hk, hb1⟩
                        have hq := Below.refl w2.heap.size w2)
                     | (have hbA := (below_new w1 (.cells #[.string x.verb, .string ⟨#[42]⟩] 9)).drew
                        refine (c1 _ ((RR.out _ (chain bw hbA)).1)).mono ?_
                        rintro e w2 ⟨k, cap, rfl, hk, hb1⟩
                        have hq := (Hn.out w1).later (chain (drew_below _) hb1))
                   have ek := hk.1
                   have hb2 := chain (chain bw hbA) hb1
                   have e2 := DC.out _ hb2)
                | (with_reducible show Calls _ k _ (World.alloc w2 _) _
                   have ck := hk.2 (w2.alloc (.cells #[.string x.verb, .string ⟨#[42]⟩] 9)) (x.verb.size + 1) _ 2 [x.verb, ⟨#[42]⟩] (two_len _ _) (below_new _ _) (Hn.out w2)
                   rw [HZ1.out] at ck
                   refine ck.mono ?_
                   rintro e w3 ⟨rfl, hb3⟩
                   have hb4 := chain hb2 (chain (below_new w2 (.cells #[.string x.verb, .string ⟨#[42]⟩] 9)) hb3)
                   have e3 := DC.out _ hb4)
                | (with_reducible show Calls _ k _ w2 _
                   have ck := hk.2 w2 (x.verb.size + 1) _ 2 [x.verb, ⟨#[42]⟩] (two_len _ _) (Below.refl _ _) hq
                   rw [HZ1.out] at ck
                   refine ck.mono ?_
                   rintro e w3 ⟨rfl, hb3⟩
                   have hb4 := chain hb2 hb3
                   have e3 := DC.out _ hb4)
                | fail)
            all_goals
              go_wp2_with fail
              go_meet
              exact ⟨rfl, hb4⟩
          case rest =>
          obtain ⟨rfl, hbc⟩ := hcut
          obtain ⟨wo, rfl⟩ : ∃ w', w' = wc := ⟨wc, rfl⟩
          obtain ⟨q0, q1, q2, q3, q4, k0, k1, k2, k3, k4, k5, k6⟩ := DC.out _ hbc
          go_wp2_with fail
          refine wp_region_noPanic ?_
          refine wp_region_held_drew (S := fun w' => w'.cell? ⟨w.heap.size, 0, none⟩ = some (.slice va r.verbs.length vc) ∧ w'.cell? ⟨w.heap.size, 1, none⟩ = some (.slice ga r.groups.length gc) ∧ w'.cell? ⟨w.heap.size, 2, none⟩ = some (.slice sa r.resources.length sc) ∧ w'.cell? ⟨w.heap.size, 3, none⟩ = some (.slice na r.names.length nc) ∧ w'.cell? ⟨w.heap.size, 4, none⟩ = some (.slice pa r.paths.length pc) ∧ w'.cell? ⟨w.heap.size + 1, 0, none⟩ = some (.string x.verb) ∧ w'.cell? ⟨w.heap.size + 1, 1, none⟩ = some (.string x.group) ∧ w'.cell? ⟨w.heap.size + 1, 2, none⟩ = some (.string x.resource) ∧ w'.cell? ⟨w.heap.size + 1, 3, none⟩ = some (.string x.part) ∧ w'.cell? ⟨w.heap.size + 1, 4, none⟩ = some (.string x.name) ∧ w'.cell? ⟨w.heap.size + 1, 5, none⟩ = some (.string x.space) ∧ w'.cell? ⟨w.heap.size + 1, 6, none⟩ = some (.string x.path)) (by kernel_rfl) ?_ (fun hHeld => ?_)
          · exact (DC.out _ hbc.drew)
          refine takeH 0 (d := 21) (v := ?_) rfl (by kernel_rfl) (by kernel_rfl) (by kernel_rfl) noPanic_none (by rfl) hHeld ?_ ?_
          rotate_left
          · (intro w hSw; (try dsimp only at hSw); go_simp; try (with_reducible rfl))
          try simp only [Act.put, List.setIfInBounds_toArray, List.set_cons_zero, List.set_cons_succ]
          refine takeH 1 (d := 22) (v := ?_) rfl (by kernel_rfl) (by kernel_rfl) (by kernel_rfl) noPanic_none (by rfl) hHeld ?_ ?_
          rotate_left
          · (intro w hSw; (try dsimp only at hSw); go_simp; try (with_reducible rfl))
          try simp only [Act.put, List.setIfInBounds_toArray, List.set_cons_zero, List.set_cons_succ]
          refine takeH 3 (d := 24) (v := ?_) rfl (by kernel_rfl) (by kernel_rfl) (by kernel_rfl) noPanic_none (by rfl) hHeld ?_ ?_
          rotate_left
          · (intro w hSw; (try dsimp only at hSw); go_simp; try (with_reducible rfl))
          try simp only [Act.put, List.setIfInBounds_toArray, List.set_cons_zero, List.set_cons_succ]
          refine takeH 4 (d := 25) (v := ?_) rfl (by kernel_rfl) (by kernel_rfl) (by kernel_rfl) noPanic_none (by rfl) hHeld ?_ ?_
          rotate_left
          · (intro w hSw; (try dsimp only at hSw); go_simp; try (with_reducible rfl))
          try simp only [Act.put, List.setIfInBounds_toArray, List.set_cons_zero, List.set_cons_succ]
          refine wpAnyH_ready (rs := [2, 5]) (by kernel_rfl) (by simp) ?_
          refine stepH (i := 2) (d := 23) rfl (by rfl) (fun K hK => ?_) ?_
          · go_simp
            have hbA := drew_below wo
            refine (c3 _ ((RR.out _ (chain hbc hbA)).2.1)).mono ?_
            rintro e w2 ⟨k, cap, rfl, hk, hb1⟩
            have ek := hk.1
            have hb2 := chain (chain hbc hbA) hb1
            refine hK.out _ _ ?_ (fun hHeld => ?_)
            · exact DC.out _ hb2
            clear hK K
            try simp only [Act.put, List.setIfInBounds_toArray, List.set_cons_zero, List.set_cons_succ]
            refine wpAnyH_ready (rs := [5]) (by kernel_rfl) (by simp) ?_
            refine stepH (i := 5) (d := 26) rfl (by rfl) (fun K hK => ?_) ?_
            · go_simp
              refine hK.out _ _ ?_ (fun hHeld => ?_)
              · exact DC.out _ (chain hb2 (below_new _ _))
              clear hK K
              try simp only [Act.put, List.setIfInBounds_toArray, List.set_cons_zero, List.set_cons_succ]
              refine wpAnyH_ready (rs := [6]) (by kernel_rfl) (by simp) ?_
              refine stepH (i := 6) (d := 27) rfl (by rfl) (fun K hK => ?_) ?_
              · go_simp
                have ck := hk.2 (w2.alloc (.cells #[.string x.group, .string ⟨#[42]⟩] 9)) (x.group.size + 1) _ 2 [x.group, ⟨#[42]⟩] (two_len _ _) (below_new _ _) (Hn2.out w2)
                rw [HZ2.out] at ck
                refine ck.mono ?_
                rintro e w3 ⟨rfl, hb3⟩
                have hb4 := chain hb2 (chain (below_new w2 (.cells #[.string x.group, .string ⟨#[42]⟩] 9)) hb3)
                refine hK.out _ _ ?_ (fun hHeld => ?_)
                · exact DC.out _ hb4
                clear hK K
                try simp only [Act.put, List.setIfInBounds_toArray, List.set_cons_zero, List.set_cons_succ]
                refine takeH 7 (d := 28) (v := ?_) rfl (by kernel_rfl) (by kernel_rfl) (by kernel_rfl) noPanic_none (by rfl) hHeld ?_ ?_
                rotate_left
                · (intro w hSw; (try dsimp only at hSw); go_simp; try (with_reducible rfl))
                try simp only [Act.put, List.setIfInBounds_toArray, List.set_cons_zero, List.set_cons_succ]
                refine takeH 8 (d := 29) (v := ?_) rfl (by kernel_rfl) (by kernel_rfl) (by kernel_rfl) noPanic_none (by rfl) hHeld ?_ ?_
                rotate_left
                · (intro w hSw; (try dsimp only at hSw); go_simp; try (with_reducible rfl))
                try simp only [Act.put, List.setIfInBounds_toArray, List.set_cons_zero, List.set_cons_succ]
                refine takeH 9 (d := 30) (v := ?_) rfl (by kernel_rfl) (by kernel_rfl) (by kernel_rfl) noPanic_none (by rfl) hHeld ?_ ?_
                rotate_left
                · (intro w hSw; (try dsimp only at hSw); go_simp; try (with_reducible rfl))
                try simp only [Act.put, List.setIfInBounds_toArray, List.set_cons_zero, List.set_cons_succ]
                refine takeH 10 (d := 31) (v := ?_) rfl (by kernel_rfl) (by kernel_rfl) (by kernel_rfl) noPanic_none (by rfl) hHeld ?_ ?_
                rotate_left
                · (intro w hSw; (try dsimp only at hSw); go_simp; try (with_reducible rfl))
                try simp only [Act.put, List.setIfInBounds_toArray, List.set_cons_zero, List.set_cons_succ]
                refine takeH 11 (d := 32) (v := ?_) rfl (by kernel_rfl) (by kernel_rfl) (by kernel_rfl) noPanic_none (by rfl) hHeld ?_ ?_
                rotate_left
                · (intro w hSw; (try dsimp only at hSw); go_simp; try (with_reducible rfl))
                try simp only [Act.put, List.setIfInBounds_toArray, List.set_cons_zero, List.set_cons_succ]
                refine takeH 12 (d := 33) (v := ?_) rfl (by kernel_rfl) (by kernel_rfl) (by kernel_rfl) noPanic_none (by rfl) hHeld ?_ ?_
                rotate_left
                · (intro w hSw; (try dsimp only at hSw); go_simp; try (with_reducible rfl))
                try simp only [Act.put, List.setIfInBounds_toArray, List.set_cons_zero, List.set_cons_succ]
                refine takeH 13 (d := 34) (v := ?_) rfl (by kernel_rfl) (by kernel_rfl) (by kernel_rfl) noPanic_none (by rfl) hHeld ?_ ?_
                rotate_left
                · (intro w hSw; (try dsimp only at hSw); go_simp; try (with_reducible rfl))
                try simp only [Act.put, List.setIfInBounds_toArray, List.set_cons_zero, List.set_cons_succ]
                refine wpAnyH_ready (rs := [14]) (by kernel_rfl) (by simp) ?_
                refine stepH (i := 14) (d := 35) rfl (by rfl) (fun K hK => ?_) ?_
                · go_simp
                  refine (c4 _ ((RR.out _ hb4).2.2.1)).mono ?_
                  rintro e w5 ⟨rfl, hb5⟩
                  have hb6 := chain hb4 hb5
                  refine hK.out _ _ ?_ (fun hHeld => ?_)
                  · exact DC.out _ hb6
                  clear hK K
                  try simp only [Act.put, List.setIfInBounds_toArray, List.set_cons_zero, List.set_cons_succ]
                  refine takeH 15 (d := 36) (v := ?_) rfl (by kernel_rfl) (by kernel_rfl) (by kernel_rfl) noPanic_none (by rfl) hHeld ?_ ?_
                  rotate_left
                  · (intro w hSw; (try dsimp only at hSw); go_simp; try (with_reducible rfl))
                  try simp only [Act.put, List.setIfInBounds_toArray, List.set_cons_zero, List.set_cons_succ]
                  refine takeH 16 (d := 37) (v := ?_) rfl (by kernel_rfl) (by kernel_rfl) (by kernel_rfl) noPanic_none (by rfl) hHeld ?_ ?_
                  rotate_left
                  · (intro w hSw; (try dsimp only at hSw); go_simp; try (with_reducible rfl))
                  try simp only [Act.put, List.setIfInBounds_toArray, List.set_cons_zero, List.set_cons_succ]
                  refine takeH 17 (d := 38) (v := ?_) rfl (by kernel_rfl) (by kernel_rfl) (by kernel_rfl) noPanic_none (by rfl) hHeld ?_ ?_
                  rotate_left
                  · (intro w hSw; (try dsimp only at hSw); go_simp; try (with_reducible rfl))
                  try simp only [Act.put, List.setIfInBounds_toArray, List.set_cons_zero, List.set_cons_succ]
                  refine takeH 18 (d := 39) (v := ?_) rfl (by kernel_rfl) (by kernel_rfl) (by kernel_rfl) noPanic_none (by rfl) hHeld ?_ ?_
                  rotate_left
                  · (intro w hSw; (try dsimp only at hSw); go_simp; try (with_reducible rfl))
                  try simp only [Act.put, List.setIfInBounds_toArray, List.set_cons_zero, List.set_cons_succ]
                  refine takeH 19 (d := 40) (v := ?_) rfl (by kernel_rfl) (by kernel_rfl) (by kernel_rfl) noPanic_none (by rfl) hHeld ?_ ?_
                  rotate_left
                  · (intro w hSw; (try dsimp only at hSw); go_simp; try (with_reducible rfl))
                  try simp only [Act.put, List.setIfInBounds_toArray, List.set_cons_zero, List.set_cons_succ]
                  refine takeH 20 (d := 41) (v := ?_) rfl (by kernel_rfl) (by kernel_rfl) (by kernel_rfl) noPanic_none (by rfl) hHeld ?_ ?_
                  rotate_left
                  · (intro w hSw; (try dsimp only at hSw); go_simp; try (with_reducible rfl))
                  try simp only [Act.put, List.setIfInBounds_toArray, List.set_cons_zero, List.set_cons_succ]
                  refine wpAnyH_ready (rs := [21]) (by kernel_rfl) (by simp) ?_
                  refine stepH (i := 21) (d := 42) rfl (by rfl) (fun K hK => ?_) ?_
                  · go_simp
                    refine (c5 _ ((RR.out _ hb6).2.2.2.1)).mono ?_
                    rintro e w7 ⟨rfl, hb7⟩
                    have hb8 := chain hb6 hb7
                    refine hK.out _ _ ?_ (fun hHeld => ?_)
                    · exact DC.out _ hb8
                    clear hK K
                    try simp only [Act.put, List.setIfInBounds_toArray, List.set_cons_zero, List.set_cons_succ]
                    refine takeH 22 (d := 43) (v := ?_) rfl (by kernel_rfl) (by kernel_rfl) (by kernel_rfl) noPanic_none (by rfl) hHeld ?_ ?_
                    rotate_left
                    · (intro w hSw; (try dsimp only at hSw); go_simp; try (with_reducible rfl))
                    try simp only [Act.put, List.setIfInBounds_toArray, List.set_cons_zero, List.set_cons_succ]
                    refine takeH 23 (d := 4) (v := ?_) rfl (by kernel_rfl) (by kernel_rfl) (by kernel_rfl) noPanic_none (by rfl) hHeld ?_ ?_
                    rotate_left
                    · (intro w hSw; (try dsimp only at hSw); go_simp; try (with_reducible rfl))
                    try simp only [Act.put, List.setIfInBounds_toArray, List.set_cons_zero, List.set_cons_succ]
                    refine wpAnyH_done (by kernel_rfl) ?_ _
                    refine NoPanic.normal ?_
                    go_wp2
                    go_ret
                    exact ⟨ret_bool (by rw [H2.out]; rfl), chain b0 hb8⟩
                  exact AllReadyH.nil
                exact AllReadyH.nil
              exact AllReadyH.nil
            exact AllReadyH.nil
          refine stepH (i := 5) (d := 26) rfl (by rfl) (fun K hK => ?_) ?_
          · go_simp
            refine hK.out _ _ ?_ (fun hHeld => ?_)
            · exact DC.out _ (chain hbc (below_new wo (.cells #[.string x.group, .string ⟨#[42]⟩] 9)).drew)
            clear hK K
            try simp only [Act.put, List.setIfInBounds_toArray, List.set_cons_zero, List.set_cons_succ]
            refine wpAnyH_ready (rs := [2]) (by kernel_rfl) (by simp) ?_
            refine stepH (i := 2) (d := 23) rfl (by rfl) (fun K hK => ?_) ?_
            · go_simp
              have hbA := (below_new wo (.cells #[.string x.group, .string ⟨#[42]⟩] 9)).drew
              refine (c3 _ ((RR.out _ (chain hbc hbA)).2.1)).mono ?_
              rintro e w2 ⟨k, cap, rfl, hk, hb1⟩
              have ek := hk.1
              have hb2 := chain (chain hbc hbA) hb1
              have hq := (Hn2.out wo).later (chain (drew_below _) hb1)
              refine hK.out _ _ ?_ (fun hHeld => ?_)
              · exact DC.out _ hb2
              clear hK K
              try simp only [Act.put, List.setIfInBounds_toArray, List.set_cons_zero, List.set_cons_succ]
              refine wpAnyH_ready (rs := [6]) (by kernel_rfl) (by simp) ?_
              refine stepH (i := 6) (d := 27) rfl (by rfl) (fun K hK => ?_) ?_
              · go_simp
                have ck := hk.2 w2 (x.group.size + 1) _ 2 [x.group, ⟨#[42]⟩] (two_len _ _) (Below.refl _ _) hq
                rw [HZ2.out] at ck
                refine ck.mono ?_
                rintro e w3 ⟨rfl, hb3⟩
                have hb4 := chain hb2 hb3
                refine hK.out _ _ ?_ (fun hHeld => ?_)
                · exact DC.out _ hb4
                clear hK K
                try simp only [Act.put, List.setIfInBounds_toArray, List.set_cons_zero, List.set_cons_succ]
                refine takeH 7 (d := 28) (v := ?_) rfl (by kernel_rfl) (by kernel_rfl) (by kernel_rfl) noPanic_none (by rfl) hHeld ?_ ?_
                rotate_left
                · (intro w hSw; (try dsimp only at hSw); go_simp; try (with_reducible rfl))
                try simp only [Act.put, List.setIfInBounds_toArray, List.set_cons_zero, List.set_cons_succ]
                refine takeH 8 (d := 29) (v := ?_) rfl (by kernel_rfl) (by kernel_rfl) (by kernel_rfl) noPanic_none (by rfl) hHeld ?_ ?_
                rotate_left
                · (intro w hSw; (try dsimp only at hSw); go_simp; try (with_reducible rfl))
                try simp only [Act.put, List.setIfInBounds_toArray, List.set_cons_zero, List.set_cons_succ]
                refine takeH 9 (d := 30) (v := ?_) rfl (by kernel_rfl) (by kernel_rfl) (by kernel_rfl) noPanic_none (by rfl) hHeld ?_ ?_
                rotate_left
                · (intro w hSw; (try dsimp only at hSw); go_simp; try (with_reducible rfl))
                try simp only [Act.put, List.setIfInBounds_toArray, List.set_cons_zero, List.set_cons_succ]
                refine takeH 10 (d := 31) (v := ?_) rfl (by kernel_rfl) (by kernel_rfl) (by kernel_rfl) noPanic_none (by rfl) hHeld ?_ ?_
                rotate_left
                · (intro w hSw; (try dsimp only at hSw); go_simp; try (with_reducible rfl))
                try simp only [Act.put, List.setIfInBounds_toArray, List.set_cons_zero, List.set_cons_succ]
                refine takeH 11 (d := 32) (v := ?_) rfl (by kernel_rfl) (by kernel_rfl) (by kernel_rfl) noPanic_none (by rfl) hHeld ?_ ?_
                rotate_left
                · (intro w hSw; (try dsimp only at hSw); go_simp; try (with_reducible rfl))
                try simp only [Act.put, List.setIfInBounds_toArray, List.set_cons_zero, List.set_cons_succ]
                refine takeH 12 (d := 33) (v := ?_) rfl (by kernel_rfl) (by kernel_rfl) (by kernel_rfl) noPanic_none (by rfl) hHeld ?_ ?_
                rotate_left
                · (intro w hSw; (try dsimp only at hSw); go_simp; try (with_reducible rfl))
                try simp only [Act.put, List.setIfInBounds_toArray, List.set_cons_zero, List.set_cons_succ]
                refine takeH 13 (d := 34) (v := ?_) rfl (by kernel_rfl) (by kernel_rfl) (by kernel_rfl) noPanic_none (by rfl) hHeld ?_ ?_
                rotate_left
                · (intro w hSw; (try dsimp only at hSw); go_simp; try (with_reducible rfl))
                try simp only [Act.put, List.setIfInBounds_toArray, List.set_cons_zero, List.set_cons_succ]
                refine wpAnyH_ready (rs := [14]) (by kernel_rfl) (by simp) ?_
                refine stepH (i := 14) (d := 35) rfl (by rfl) (fun K hK => ?_) ?_
                · go_simp
                  refine (c4 _ ((RR.out _ hb4).2.2.1)).mono ?_
                  rintro e w5 ⟨rfl, hb5⟩
                  have hb6 := chain hb4 hb5
                  refine hK.out _ _ ?_ (fun hHeld => ?_)
                  · exact DC.out _ hb6
                  clear hK K
                  try simp only [Act.put, List.setIfInBounds_toArray, List.set_cons_zero, List.set_cons_succ]
                  refine takeH 15 (d := 36) (v := ?_) rfl (by kernel_rfl) (by kernel_rfl) (by kernel_rfl) noPanic_none (by rfl) hHeld ?_ ?_
                  rotate_left
                  · (intro w hSw; (try dsimp only at hSw); go_simp; try (with_reducible rfl))
                  try simp only [Act.put, List.setIfInBounds_toArray, List.set_cons_zero, List.set_cons_succ]
                  refine takeH 16 (d := 37) (v := ?_) rfl (by kernel_rfl) (by kernel_rfl) (by kernel_rfl) noPanic_none (by rfl) hHeld ?_ ?_
                  rotate_left
                  · (intro w hSw; (try dsimp only at hSw); go_simp; try (with_reducible rfl))
                  try simp only [Act.put, List.setIfInBounds_toArray, List.set_cons_zero, List.set_cons_succ]
                  refine takeH 17 (d := 38) (v := ?_) rfl (by kernel_rfl) (by kernel_rfl) (by kernel_rfl) noPanic_none (by rfl) hHeld ?_ ?_
                  rotate_left
                  · (intro w hSw; (try dsimp only at hSw); go_simp; try (with_reducible rfl))
                  try simp only [Act.put, List.setIfInBounds_toArray, List.set_cons_zero, List.set_cons_succ]
                  refine takeH 18 (d := 39) (v := ?_) rfl (by kernel_rfl) (by kernel_rfl) (by kernel_rfl) noPanic_none (by rfl) hHeld ?_ ?_
                  rotate_left
                  · (intro w hSw; (try dsimp only at hSw); go_simp; try (with_reducible rfl))
                  try simp only [Act.put, List.setIfInBounds_toArray, List.set_cons_zero, List.set_cons_succ]
                  refine takeH 19 (d := 40) (v := ?_) rfl (by kernel_rfl) (by kernel_rfl) (by kernel_rfl) noPanic_none (by rfl) hHeld ?_ ?_
                  rotate_left
                  · (intro w hSw; (try dsimp only at hSw); go_simp; try (with_reducible rfl))
                  try simp only [Act.put, List.setIfInBounds_toArray, List.set_cons_zero, List.set_cons_succ]
                  refine takeH 20 (d := 41) (v := ?_) rfl (by kernel_rfl) (by kernel_rfl) (by kernel_rfl) noPanic_none (by rfl) hHeld ?_ ?_
                  rotate_left
                  · (intro w hSw; (try dsimp only at hSw); go_simp; try (with_reducible rfl))
                  try simp only [Act.put, List.setIfInBounds_toArray, List.set_cons_zero, List.set_cons_succ]
                  refine wpAnyH_ready (rs := [21]) (by kernel_rfl) (by simp) ?_
                  refine stepH (i := 21) (d := 42) rfl (by rfl) (fun K hK => ?_) ?_
                  · go_simp
                    refine (c5 _ ((RR.out _ hb6).2.2.2.1)).mono ?_
                    rintro e w7 ⟨rfl, hb7⟩
                    have hb8 := chain hb6 hb7
                    refine hK.out _ _ ?_ (fun hHeld => ?_)
                    · exact DC.out _ hb8
                    clear hK K
                    try simp only [Act.put, List.setIfInBounds_toArray, List.set_cons_zero, List.set_cons_succ]
                    refine takeH 22 (d := 43) (v := ?_) rfl (by kernel_rfl) (by kernel_rfl) (by kernel_rfl) noPanic_none (by rfl) hHeld ?_ ?_
                    rotate_left
                    · (intro w hSw; (try dsimp only at hSw); go_simp; try (with_reducible rfl))
                    try simp only [Act.put, List.setIfInBounds_toArray, List.set_cons_zero, List.set_cons_succ]
                    refine takeH 23 (d := 4) (v := ?_) rfl (by kernel_rfl) (by kernel_rfl) (by kernel_rfl) noPanic_none (by rfl) hHeld ?_ ?_
                    rotate_left
                    · (intro w hSw; (try dsimp only at hSw); go_simp; try (with_reducible rfl))
                    try simp only [Act.put, List.setIfInBounds_toArray, List.set_cons_zero, List.set_cons_succ]
                    refine wpAnyH_done (by kernel_rfl) ?_ _
                    refine NoPanic.normal ?_
                    go_wp2
                    go_ret
                    exact ⟨ret_bool (by rw [H2.out]; rfl), chain b0 hb8⟩
                  exact AllReadyH.nil
                exact AllReadyH.nil
              exact AllReadyH.nil
            exact AllReadyH.nil
          exact AllReadyH.nil
end Go.Proofs.YthflpgeonllgdaaDoor.rul
