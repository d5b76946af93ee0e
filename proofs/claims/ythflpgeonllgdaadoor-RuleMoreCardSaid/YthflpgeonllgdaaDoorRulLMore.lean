/- Layer 8: the law RuleMore. -/
import Derived.Test.YthflpgeonllgdaaDoorRulMoreP
import Derived.Test.YthflpgeonllgdaaDoorRulSet
import Derived.Test.YthflpgeonllgdaaDoorRepK
namespace Go.Proofs.YthflpgeonllgdaaDoor.rul
open Go.RowKit Go.Proofs.YthflpgeonllgdaaDoor.rep Go.Proofs.YthflpgeonllgdaaDoor.lab

theorem info_parts {e : TypeId} {z : Value} {n b : Nat} (h : (Tryd.prog.info? e).map (fun i => (i.zero, i.size, i.bytes)) = some (some z, n, b)) : ∃ i, Tryd.prog.info? e = some i ∧ i.zero = some z ∧ i.size = n ∧ i.bytes = b := by
  cases hi : Tryd.prog.info? e with
  | none => rw [hi] at h; cases h
  | some i =>
    rw [hi] at h
    simp only [Option.map_some, Option.some.injEq, Prod.mk.injEq] at h
    exact ⟨i, rfl, h.1, h.2.1, h.2.2⟩
theorem info_Tx : (Tryd.prog.info? 9).map (fun i => (i.zero, i.size, i.bytes)) = some (some (.string ByteArray.empty), 1, 16) := by kernel_rfl
theorem one_Tx (B : Nat) : ∀ W cs x, (text B).at_ W cs x → ∀ u ∈ cs, u.oneCell' = true := by
  rintro W cs x ⟨rfl, _⟩ u hu
  simp only [List.mem_cons, List.not_mem_nil, or_false] at hu
  rcases hu with rfl; rfl
theorem made_one (W : World) (R : Obj) (m : ByteArray) : ((W.alloc R).alloc (.cells #[.string m] 9)).ownsRow (W.heap.size + 1) 9 1 (.slice (some ⟨W.heap.size + 1, 0, none⟩) 1 1) 1 [.string m] := by
  exact ⟨by simp, .inr ⟨W.heap.size + 1, 1, #[.string m], rfl, Nat.le_refl _, by have := heap_alloc_new (W.alloc R) (.cells #[.string m] 9); rwa [World.size_alloc] at this, Nat.le_refl _, by decide, rfl, rfl⟩⟩
set_option maxRecDepth 100000 in
set_option maxHeartbeats 16000000 in
theorem lawMore (B : Nat) (hB : B ≤ 140737488355328) (hB2 : 100 ≤ B) (r : Ru) (v g s n p : Value) (x : Ak) (more : ByteArray) (w : World) (hr : ruAt B w v g s n p r) (hx : akOk B x) (hmo : more.size ≤ B) (hm : nam.MaxL w) :
    Calls Tryd.prog 5 #[.agg #[v, g, s, n, p], .agg #[.string x.verb, .string x.group, .string x.resource, .string x.part, .string x.name, .string x.space, .string x.path], .string more] w fun e w' => e = .returned (.bool true) ∧ Below w.heap.size w w' := by
  obtain ⟨i0, hi0, hz0, hz1, hz2⟩ := info_parts info_Tx
  obtain ⟨⟨va, vc, rfl, hv⟩, ⟨ga, gc, rfl, hg⟩, ⟨sa, sc, rfl, hs⟩, ⟨na, nc, rfl, hn⟩, ⟨pa, pc, rfl, hp⟩⟩ := hr
  have hr : ruAt B w _ _ _ _ _ r := ⟨⟨va, vc, rfl, hv⟩, ⟨ga, gc, rfl, hg⟩, ⟨sa, sc, rfl, hs⟩, ⟨na, nc, rfl, hn⟩, ⟨pa, pc, rfl, hp⟩⟩
  clear hv hg hs hn hp
  have b0 := chain (below_new w (.cells #[.slice va r.verbs.length vc, .slice ga r.groups.length gc, .slice sa r.resources.length sc, .slice na r.names.length nc, .slice pa r.paths.length pc] 24)) (below_new _ (.cells #[.string x.verb, .string x.group, .string x.resource, .string x.part, .string x.name, .string x.space, .string x.path] 26))
  obtain ⟨h1, h2⟩ := blk_two w #[.slice va r.verbs.length vc, .slice ga r.groups.length gc, .slice sa r.resources.length sc, .slice na r.names.length nc, .slice pa r.paths.length pc] #[.string x.verb, .string x.group, .string x.resource, .string x.part, .string x.name, .string x.space, .string x.path] 24 26
  go_enter Tryd.func5, Tryd.ntmps5
  go_wp2_with fail
  generalize (w.alloc (.cells #[.slice va r.verbs.length vc, .slice ga r.groups.length gc, .slice sa r.resources.length sc, .slice na r.names.length nc, .slice pa r.paths.length pc] 24)).alloc (.cells #[.string x.verb, .string x.group, .string x.resource, .string x.part, .string x.name, .string x.space, .string x.path] 26) = w0 at *
  refine (awake_any _ (hm.later b0)).mono ?_
  rintro e w1 ⟨rfl, hb1⟩
  have b1 := chain b0 hb1
  have g1 := blk_later h1 hb1
  have g2 := blk_later h2 hb1
  have q0 : w1.cell? ⟨w.heap.size, 0, none⟩ = some (.slice va r.verbs.length vc) := blk_cell g1 0
  have q1 : w1.cell? ⟨w.heap.size, 1, none⟩ = some (.slice ga r.groups.length gc) := blk_cell g1 1
  have q2 : w1.cell? ⟨w.heap.size, 2, none⟩ = some (.slice sa r.resources.length sc) := blk_cell g1 2
  have q3 : w1.cell? ⟨w.heap.size, 3, none⟩ = some (.slice na r.names.length nc) := blk_cell g1 3
  have q4 : w1.cell? ⟨w.heap.size, 4, none⟩ = some (.slice pa r.paths.length pc) := blk_cell g1 4
  clear h1 h2
  go_wp2_with fail
  refine (small_any' B r _ _ _ _ _ w w1 hr).mono ?_
  rintro e w2 ⟨va2, vc2, ga2, gc2, sa2, sc2, na2, nc2, pa2, pc2, rfl, hr2, hb2⟩
  have b2 := chain b1 hb2
  have i1 := blk_later g1 hb2
  have i2 := blk_later g2 hb2
  have f0 := blk_frozen i1 0
  have f1 := blk_frozen i1 1
  have f2 := blk_frozen i1 2
  have f3 := blk_frozen i1 3
  have f4 := blk_frozen i1 4
  have z0 : w2.cell? ⟨w.heap.size, 0, none⟩ = some (.slice va r.verbs.length vc) := blk_cell i1 0
  have z1 : w2.cell? ⟨w.heap.size, 1, none⟩ = some (.slice ga r.groups.length gc) := blk_cell i1 1
  have z2 : w2.cell? ⟨w.heap.size, 2, none⟩ = some (.slice sa r.resources.length sc) := blk_cell i1 2
  have z3 : w2.cell? ⟨w.heap.size, 3, none⟩ = some (.slice na r.names.length nc) := blk_cell i1 3
  have z4 : w2.cell? ⟨w.heap.size, 4, none⟩ = some (.slice pa r.paths.length pc) := blk_cell i1 4
  clear q0 q1 q2 q3 q4
  go_upto_region 3 with (fail)
  have e1 := Lib.hid (set5 (.slice va2 (smallR r).verbs.length vc2) (.slice ga2 (smallR r).groups.length gc2) (.slice sa2 (smallR r).resources.length sc2) (.slice na2 (smallR r).names.length nc2) (.slice pa2 (smallR r).paths.length pc2) i1)
  have e2 := Lib.hid ((far5 (w := w2) (g := w.heap.size) (k := w.heap.size + 1) (u0 := .slice va2 (smallR r).verbs.length vc2) (u1 := .slice ga2 (smallR r).groups.length gc2) (u2 := .slice sa2 (smallR r).resources.length sc2) (u3 := .slice na2 (smallR r).names.length nc2) (u4 := .slice pa2 (smallR r).paths.length pc2) (by omega)).trans i2)
  have b3 := Lib.hid (below5 (g := w.heap.size) (.slice va2 (smallR r).verbs.length vc2) (.slice ga2 (smallR r).groups.length gc2) (.slice sa2 (smallR r).resources.length sc2) (.slice na2 (smallR r).names.length nc2) (.slice pa2 (smallR r).paths.length pc2) b2 (Nat.le_refl _))
  obtain ⟨wf, hwf⟩ : ∃ wf, wf = (((((w2.setCell ⟨w.heap.size, 0, none⟩ (.slice va2 (smallR r).verbs.length vc2)).setCell ⟨w.heap.size, 1, none⟩ (.slice ga2 (smallR r).groups.length gc2)).setCell ⟨w.heap.size, 2, none⟩ (.slice sa2 (smallR r).resources.length sc2)).setCell ⟨w.heap.size, 3, none⟩ (.slice na2 (smallR r).names.length nc2)).setCell ⟨w.heap.size, 4, none⟩ (.slice pa2 (smallR r).paths.length pc2)) := ⟨_, rfl⟩
  rw [← hwf] at e1 e2 b3 ⊢
  clear hwf z0 z1 z2 z3 z4 f0 f1 f2 f3 f4 i1 i2 g1 g2
  obtain ⟨hd, hhd⟩ : ∃ hd, allowsB (smallR r) x = hd := ⟨_, rfl⟩
  have HD := Lib.hid hhd
  have c0 := Allows_any B hB (smallR r) _ _ _ _ _ x wf (hr2.later b3.out) hx
  rw [hhd] at c0
  clear hhd
  have p0 := blk_cell e1.out 0
  have p1 := blk_cell e1.out 1
  have p2 := blk_cell e1.out 2
  have p3 := blk_cell e1.out 3
  have p4 := blk_cell e1.out 4
  have a0 := blk_cell e2.out 0
  have a1 := blk_cell e2.out 1
  have a2 := blk_cell e2.out 2
  have a3 := blk_cell e2.out 3
  have a4 := blk_cell e2.out 4
  have a5 := blk_cell e2.out 5
  have a6 := blk_cell e2.out 6
  go_wp2_with fail
  refine c0.mono ?_
  rintro e S0 ⟨rfl, hv0⟩
  have b4 := chain b3.out hv0
  have GR := Lib.hid (show ∀ W, Below S0.heap.size S0 W → W.heap[w.heap.size]? = some (.cells #[.slice va2 (smallR r).verbs.length vc2, .slice ga2 (smallR r).groups.length gc2, .slice sa2 (smallR r).resources.length sc2, .slice na2 (smallR r).names.length nc2, .slice pa2 (smallR r).paths.length pc2] 24) ∧ W.heap[w.heap.size + 1]? = some (.cells #[.string x.verb, .string x.group, .string x.resource, .string x.part, .string x.name, .string x.space, .string x.path] 26) from fun W h => ⟨blk_later (blk_later e1.out hv0) h, blk_later (blk_later e2.out hv0) h⟩)
  have H0 := Below.refl S0.heap.size S0
  have L := Lib.hid (show (smallR r).verbs.length ≤ 18 ∧ (smallR r).groups.length ≤ 18 ∧ (smallR r).resources.length ≤ 18 ∧ (smallR r).names.length ≤ 18 ∧ (smallR r).paths.length ≤ 18 by
    unfold smallR
    refine ⟨?_, ?_, ?_, ?_, ?_⟩ <;> (rw [List.length_take]; omega))
  obtain ⟨l0, l1, l2, l3, l4⟩ := L.out
  clear p0 p1 p2 p3 p4 a0 a1 a2 a3 a4 a5 a6 e1 e2 c0
  obtain ⟨gr, ga⟩ := GR.out _ H0
  have p0 := blk_cell gr 0
  have p1 := blk_cell gr 1
  have p2 := blk_cell gr 2
  have p3 := blk_cell gr 3
  have p4 := blk_cell gr 4
  have z0 := blk_cell (blk_alloc (blk_alloc gr (.cells #[.slice va2 (smallR r).verbs.length vc2, .slice ga2 (smallR r).groups.length gc2, .slice sa2 (smallR r).resources.length sc2, .slice na2 (smallR r).names.length nc2, .slice pa2 (smallR r).paths.length pc2] 24)) (.cells #[.string more] 9)) 0
  have hrow0 := hr2.1
  obtain ⟨_, _, ea0, _, _, _, hrw0⟩ := hrow0
  simp only [Value.slice.injEq, true_and] at ea0
  obtain ⟨rfl, rfl⟩ := ea0
  go_upto_region 6 with (first
    | (at_builtin; refine wpList_append_row (o := ⟨some 25, _, _, _, _, _⟩) (r := text B) (w0 := w) (base := S0.heap.size + 1) (v := .slice (some ⟨S0.heap.size + 1, 0, none⟩) 1 1) (n := 1) (xs := [.string more]) (A := va2) (l := (smallR r).verbs) (c := vc2) (m := (smallR r).verbs.length) rfl _ _ 22 rfl Tryd.underlying22 hi0 hz0 hz1 hz2 rfl (Nat.zero_lt_succ 0) rfl (made_one S0 (.cells #[.slice va2 (smallR r).verbs.length vc2, .slice ga2 (smallR r).groups.length gc2, .slice sa2 (smallR r).resources.length sc2, .slice na2 (smallR r).names.length nc2, .slice pa2 (smallR r).paths.length pc2] 24) more) rfl rfl hrw0 (chain b4 (chain H0 (chain (below_new S0 (.cells #[.slice va2 (smallR r).verbs.length vc2, .slice ga2 (smallR r).groups.length gc2, .slice sa2 (smallR r).resources.length sc2, .slice na2 (smallR r).names.length nc2, .slice pa2 (smallR r).paths.length pc2] 24)) (below_new _ (.cells #[.string more] 9))))) (one_Tx B) (by unfold maxLen; omega) (by omega) (by simp) ?_; intro css0 v0 X0 hL0 hown0 hg0 _; obtain ⟨oa0, oc0, rfl⟩ := own_form hown0; have g5 := (grown_old hg0 (made_one S0 (.cells #[.slice va2 (smallR r).verbs.length vc2, .slice ga2 (smallR r).groups.length gc2, .slice sa2 (smallR r).resources.length sc2, .slice na2 (smallR r).names.length nc2, .slice pa2 (smallR r).paths.length pc2] 24) more) (show S0.heap.size < ((S0.alloc (.cells #[.slice va2 (smallR r).verbs.length vc2, .slice ga2 (smallR r).groups.length gc2, .slice sa2 (smallR r).resources.length sc2, .slice na2 (smallR r).names.length nc2, .slice pa2 (smallR r).paths.length pc2] 24)).alloc (.cells #[.string more] 9)).heap.size by (simp only [World.size_alloc]; omega)) (by omega)).trans (blk_alloc (heap_alloc_new S0 (.cells #[.slice va2 (smallR r).verbs.length vc2, .slice ga2 (smallR r).groups.length gc2, .slice sa2 (smallR r).resources.length sc2, .slice na2 (smallR r).names.length nc2, .slice pa2 (smallR r).paths.length pc2] 24)) (.cells #[.string more] 9)); have f5 := blk_frozen g5 0; have c5 := blk_cell g5 0; have bb0 := below_own (w0 := S0) (chain (below_new S0 (.cells #[.slice va2 (smallR r).verbs.length vc2, .slice ga2 (smallR r).groups.length gc2, .slice sa2 (smallR r).resources.length sc2, .slice na2 (smallR r).names.length nc2, .slice pa2 (smallR r).paths.length pc2] 24)) (below_new _ (.cells #[.string more] 9))) hg0 (made_one S0 (.cells #[.slice va2 (smallR r).verbs.length vc2, .slice ga2 (smallR r).groups.length gc2, .slice sa2 (smallR r).resources.length sc2, .slice na2 (smallR r).names.length nc2, .slice pa2 (smallR r).paths.length pc2] 24) more) (by omega)))
  obtain ⟨S1, hT0⟩ : ∃ T, T = X0.setCell ⟨S0.heap.size, 0, none⟩ (.slice oa0 (1 + (smallR r).verbs.length) oc0) := ⟨_, rfl⟩
  have hk0 : S1.heap[S0.heap.size]? = some (.cells #[.slice oa0 (1 + (smallR r).verbs.length) oc0, .slice ga2 (smallR r).groups.length gc2, .slice sa2 (smallR r).resources.length sc2, .slice na2 (smallR r).names.length nc2, .slice pa2 (smallR r).paths.length pc2] 24) := by rw [hT0]; exact blk_set g5 0 _
  have hb0 : Below S0.heap.size S0 S1 := by rw [hT0]; exact bb0.setCell (p := ⟨S0.heap.size, 0, none⟩) (Nat.le_refl _) _
  have ho0 := own_set hown0 g5 (by decide) 0 (.slice oa0 (1 + (smallR r).verbs.length) oc0)
  rw [← hT0] at ho0 ⊢
  clear hT0
  have H1 := chain H0 hb0
  have row0 : RowAt B (text B) S1 (.slice oa0 (1 + (smallR r).verbs.length) oc0) (more :: (smallR r).verbs) := by
    have hL := Lists.append (Lists.one (r := text B) (W := S1) (cs := [.string more]) (x := more) ⟨rfl, hmo⟩) (hL0.later (chain b4 H1))
    exact RowAt.of_own (r := text B) (css := [[.string more]] ++ css0) (by rw [List.flatten_append]; exact ho0) (by rw [List.length_cons]; omega) hL (by rw [List.length_cons]; omega)
  clear p0 p1 p2 p3 p4 z0 g5 f5 c5 gr ga ho0 hown0 hg0 hL0 bb0
  obtain ⟨gr, ga⟩ := GR.out _ H1
  have p0 := blk_cell gr 0
  have p1 := blk_cell gr 1
  have p2 := blk_cell gr 2
  have p3 := blk_cell gr 3
  have p4 := blk_cell gr 4
  have z0 := blk_cell (blk_alloc (blk_alloc gr (.cells #[.slice va2 (smallR r).verbs.length vc2, .slice ga2 (smallR r).groups.length gc2, .slice sa2 (smallR r).resources.length sc2, .slice na2 (smallR r).names.length nc2, .slice pa2 (smallR r).paths.length pc2] 24)) (.cells #[.string more] 9)) 1
  have hrow1 := hr2.2.1
  obtain ⟨_, _, ea1, _, _, _, hrw1⟩ := hrow1
  simp only [Value.slice.injEq, true_and] at ea1
  obtain ⟨rfl, rfl⟩ := ea1
  go_upto_region 8 with (first
    | (at_builtin; refine wpList_append_row (o := ⟨some 32, _, _, _, _, _⟩) (r := text B) (w0 := w) (base := S1.heap.size + 1) (v := .slice (some ⟨S1.heap.size + 1, 0, none⟩) 1 1) (n := 1) (xs := [.string more]) (A := ga2) (l := (smallR r).groups) (c := gc2) (m := (smallR r).groups.length) rfl _ _ 22 rfl Tryd.underlying22 hi0 hz0 hz1 hz2 rfl (Nat.zero_lt_succ 0) rfl (made_one S1 (.cells #[.slice va2 (smallR r).verbs.length vc2, .slice ga2 (smallR r).groups.length gc2, .slice sa2 (smallR r).resources.length sc2, .slice na2 (smallR r).names.length nc2, .slice pa2 (smallR r).paths.length pc2] 24) more) rfl rfl hrw1 (chain b4 (chain H1 (chain (below_new S1 (.cells #[.slice va2 (smallR r).verbs.length vc2, .slice ga2 (smallR r).groups.length gc2, .slice sa2 (smallR r).resources.length sc2, .slice na2 (smallR r).names.length nc2, .slice pa2 (smallR r).paths.length pc2] 24)) (below_new _ (.cells #[.string more] 9))))) (one_Tx B) (by unfold maxLen; omega) (by omega) (by simp) ?_; intro css1 v1 X1 hL1 hown1 hg1 _; obtain ⟨oa1, oc1, rfl⟩ := own_form hown1; have g5 := (grown_old hg1 (made_one S1 (.cells #[.slice va2 (smallR r).verbs.length vc2, .slice ga2 (smallR r).groups.length gc2, .slice sa2 (smallR r).resources.length sc2, .slice na2 (smallR r).names.length nc2, .slice pa2 (smallR r).paths.length pc2] 24) more) (show S1.heap.size < ((S1.alloc (.cells #[.slice va2 (smallR r).verbs.length vc2, .slice ga2 (smallR r).groups.length gc2, .slice sa2 (smallR r).resources.length sc2, .slice na2 (smallR r).names.length nc2, .slice pa2 (smallR r).paths.length pc2] 24)).alloc (.cells #[.string more] 9)).heap.size by (simp only [World.size_alloc]; omega)) (by omega)).trans (blk_alloc (heap_alloc_new S1 (.cells #[.slice va2 (smallR r).verbs.length vc2, .slice ga2 (smallR r).groups.length gc2, .slice sa2 (smallR r).resources.length sc2, .slice na2 (smallR r).names.length nc2, .slice pa2 (smallR r).paths.length pc2] 24)) (.cells #[.string more] 9)); have f5 := blk_frozen g5 1; have c5 := blk_cell g5 1; have bb1 := below_own (w0 := S1) (chain (below_new S1 (.cells #[.slice va2 (smallR r).verbs.length vc2, .slice ga2 (smallR r).groups.length gc2, .slice sa2 (smallR r).resources.length sc2, .slice na2 (smallR r).names.length nc2, .slice pa2 (smallR r).paths.length pc2] 24)) (below_new _ (.cells #[.string more] 9))) hg1 (made_one S1 (.cells #[.slice va2 (smallR r).verbs.length vc2, .slice ga2 (smallR r).groups.length gc2, .slice sa2 (smallR r).resources.length sc2, .slice na2 (smallR r).names.length nc2, .slice pa2 (smallR r).paths.length pc2] 24) more) (by omega)))
  obtain ⟨S2, hT1⟩ : ∃ T, T = X1.setCell ⟨S1.heap.size, 1, none⟩ (.slice oa1 (1 + (smallR r).groups.length) oc1) := ⟨_, rfl⟩
  have hk1 : S2.heap[S1.heap.size]? = some (.cells #[.slice va2 (smallR r).verbs.length vc2, .slice oa1 (1 + (smallR r).groups.length) oc1, .slice sa2 (smallR r).resources.length sc2, .slice na2 (smallR r).names.length nc2, .slice pa2 (smallR r).paths.length pc2] 24) := by rw [hT1]; exact blk_set g5 1 _
  have hb1 : Below S1.heap.size S1 S2 := by rw [hT1]; exact bb1.setCell (p := ⟨S1.heap.size, 1, none⟩) (Nat.le_refl _) _
  have ho1 := own_set hown1 g5 (by decide) 1 (.slice oa1 (1 + (smallR r).groups.length) oc1)
  rw [← hT1] at ho1 ⊢
  clear hT1
  have H2 := chain H1 hb1
  have row1 : RowAt B (text B) S2 (.slice oa1 (1 + (smallR r).groups.length) oc1) (more :: (smallR r).groups) := by
    have hL := Lists.append (Lists.one (r := text B) (W := S2) (cs := [.string more]) (x := more) ⟨rfl, hmo⟩) (hL1.later (chain b4 H2))
    exact RowAt.of_own (r := text B) (css := [[.string more]] ++ css1) (by rw [List.flatten_append]; exact ho1) (by rw [List.length_cons]; omega) hL (by rw [List.length_cons]; omega)
  clear p0 p1 p2 p3 p4 z0 g5 f5 c5 gr ga ho1 hown1 hg1 hL1 bb1
  obtain ⟨gr, ga⟩ := GR.out _ H2
  have p0 := blk_cell gr 0
  have p1 := blk_cell gr 1
  have p2 := blk_cell gr 2
  have p3 := blk_cell gr 3
  have p4 := blk_cell gr 4
  have z0 := blk_cell (blk_alloc (blk_alloc gr (.cells #[.slice va2 (smallR r).verbs.length vc2, .slice ga2 (smallR r).groups.length gc2, .slice sa2 (smallR r).resources.length sc2, .slice na2 (smallR r).names.length nc2, .slice pa2 (smallR r).paths.length pc2] 24)) (.cells #[.string more] 9)) 2
  have hrow2 := hr2.2.2.1
  obtain ⟨_, _, ea2, _, _, _, hrw2⟩ := hrow2
  simp only [Value.slice.injEq, true_and] at ea2
  obtain ⟨rfl, rfl⟩ := ea2
  go_upto_region 10 with (first
    | (at_builtin; refine wpList_append_row (o := ⟨some 39, _, _, _, _, _⟩) (r := text B) (w0 := w) (base := S2.heap.size + 1) (v := .slice (some ⟨S2.heap.size + 1, 0, none⟩) 1 1) (n := 1) (xs := [.string more]) (A := sa2) (l := (smallR r).resources) (c := sc2) (m := (smallR r).resources.length) rfl _ _ 22 rfl Tryd.underlying22 hi0 hz0 hz1 hz2 rfl (Nat.zero_lt_succ 0) rfl (made_one S2 (.cells #[.slice va2 (smallR r).verbs.length vc2, .slice ga2 (smallR r).groups.length gc2, .slice sa2 (smallR r).resources.length sc2, .slice na2 (smallR r).names.length nc2, .slice pa2 (smallR r).paths.length pc2] 24) more) rfl rfl hrw2 (chain b4 (chain H2 (chain (below_new S2 (.cells #[.slice va2 (smallR r).verbs.length vc2, .slice ga2 (smallR r).groups.length gc2, .slice sa2 (smallR r).resources.length sc2, .slice na2 (smallR r).names.length nc2, .slice pa2 (smallR r).paths.length pc2] 24)) (below_new _ (.cells #[.string more] 9))))) (one_Tx B) (by unfold maxLen; omega) (by omega) (by simp) ?_; intro css2 v2 X2 hL2 hown2 hg2 _; obtain ⟨oa2, oc2, rfl⟩ := own_form hown2; have g5 := (grown_old hg2 (made_one S2 (.cells #[.slice va2 (smallR r).verbs.length vc2, .slice ga2 (smallR r).groups.length gc2, .slice sa2 (smallR r).resources.length sc2, .slice na2 (smallR r).names.length nc2, .slice pa2 (smallR r).paths.length pc2] 24) more) (show S2.heap.size < ((S2.alloc (.cells #[.slice va2 (smallR r).verbs.length vc2, .slice ga2 (smallR r).groups.length gc2, .slice sa2 (smallR r).resources.length sc2, .slice na2 (smallR r).names.length nc2, .slice pa2 (smallR r).paths.length pc2] 24)).alloc (.cells #[.string more] 9)).heap.size by (simp only [World.size_alloc]; omega)) (by omega)).trans (blk_alloc (heap_alloc_new S2 (.cells #[.slice va2 (smallR r).verbs.length vc2, .slice ga2 (smallR r).groups.length gc2, .slice sa2 (smallR r).resources.length sc2, .slice na2 (smallR r).names.length nc2, .slice pa2 (smallR r).paths.length pc2] 24)) (.cells #[.string more] 9)); have f5 := blk_frozen g5 2; have c5 := blk_cell g5 2; have bb2 := below_own (w0 := S2) (chain (below_new S2 (.cells #[.slice va2 (smallR r).verbs.length vc2, .slice ga2 (smallR r).groups.length gc2, .slice sa2 (smallR r).resources.length sc2, .slice na2 (smallR r).names.length nc2, .slice pa2 (smallR r).paths.length pc2] 24)) (below_new _ (.cells #[.string more] 9))) hg2 (made_one S2 (.cells #[.slice va2 (smallR r).verbs.length vc2, .slice ga2 (smallR r).groups.length gc2, .slice sa2 (smallR r).resources.length sc2, .slice na2 (smallR r).names.length nc2, .slice pa2 (smallR r).paths.length pc2] 24) more) (by omega)))
  obtain ⟨S3, hT2⟩ : ∃ T, T = X2.setCell ⟨S2.heap.size, 2, none⟩ (.slice oa2 (1 + (smallR r).resources.length) oc2) := ⟨_, rfl⟩
  have hk2 : S3.heap[S2.heap.size]? = some (.cells #[.slice va2 (smallR r).verbs.length vc2, .slice ga2 (smallR r).groups.length gc2, .slice oa2 (1 + (smallR r).resources.length) oc2, .slice na2 (smallR r).names.length nc2, .slice pa2 (smallR r).paths.length pc2] 24) := by rw [hT2]; exact blk_set g5 2 _
  have hb2 : Below S2.heap.size S2 S3 := by rw [hT2]; exact bb2.setCell (p := ⟨S2.heap.size, 2, none⟩) (Nat.le_refl _) _
  have ho2 := own_set hown2 g5 (by decide) 2 (.slice oa2 (1 + (smallR r).resources.length) oc2)
  rw [← hT2] at ho2 ⊢
  clear hT2
  have H3 := chain H2 hb2
  have row2 : RowAt B (text B) S3 (.slice oa2 (1 + (smallR r).resources.length) oc2) (more :: (smallR r).resources) := by
    have hL := Lists.append (Lists.one (r := text B) (W := S3) (cs := [.string more]) (x := more) ⟨rfl, hmo⟩) (hL2.later (chain b4 H3))
    exact RowAt.of_own (r := text B) (css := [[.string more]] ++ css2) (by rw [List.flatten_append]; exact ho2) (by rw [List.length_cons]; omega) hL (by rw [List.length_cons]; omega)
  clear p0 p1 p2 p3 p4 z0 g5 f5 c5 gr ga ho2 hown2 hg2 hL2 bb2
  obtain ⟨gr, ga⟩ := GR.out _ H3
  have p0 := blk_cell gr 0
  have p1 := blk_cell gr 1
  have p2 := blk_cell gr 2
  have p3 := blk_cell gr 3
  have p4 := blk_cell gr 4
  have z0 := blk_cell (blk_alloc (blk_alloc gr (.cells #[.slice va2 (smallR r).verbs.length vc2, .slice ga2 (smallR r).groups.length gc2, .slice sa2 (smallR r).resources.length sc2, .slice na2 (smallR r).names.length nc2, .slice pa2 (smallR r).paths.length pc2] 24)) (.cells #[.string more] 9)) 4
  have hrow3 := hr2.2.2.2.2
  obtain ⟨_, _, ea3, _, _, _, hrw3⟩ := hrow3
  simp only [Value.slice.injEq, true_and] at ea3
  obtain ⟨rfl, rfl⟩ := ea3
  go_upto_region 12 with (first
    | (at_builtin; refine wpList_append_row (o := ⟨some 46, _, _, _, _, _⟩) (r := text B) (w0 := w) (base := S3.heap.size + 1) (v := .slice (some ⟨S3.heap.size + 1, 0, none⟩) 1 1) (n := 1) (xs := [.string more]) (A := pa2) (l := (smallR r).paths) (c := pc2) (m := (smallR r).paths.length) rfl _ _ 22 rfl Tryd.underlying22 hi0 hz0 hz1 hz2 rfl (Nat.zero_lt_succ 0) rfl (made_one S3 (.cells #[.slice va2 (smallR r).verbs.length vc2, .slice ga2 (smallR r).groups.length gc2, .slice sa2 (smallR r).resources.length sc2, .slice na2 (smallR r).names.length nc2, .slice pa2 (smallR r).paths.length pc2] 24) more) rfl rfl hrw3 (chain b4 (chain H3 (chain (below_new S3 (.cells #[.slice va2 (smallR r).verbs.length vc2, .slice ga2 (smallR r).groups.length gc2, .slice sa2 (smallR r).resources.length sc2, .slice na2 (smallR r).names.length nc2, .slice pa2 (smallR r).paths.length pc2] 24)) (below_new _ (.cells #[.string more] 9))))) (one_Tx B) (by unfold maxLen; omega) (by omega) (by simp) ?_; intro css3 v3 X3 hL3 hown3 hg3 _; obtain ⟨oa3, oc3, rfl⟩ := own_form hown3; have g5 := (grown_old hg3 (made_one S3 (.cells #[.slice va2 (smallR r).verbs.length vc2, .slice ga2 (smallR r).groups.length gc2, .slice sa2 (smallR r).resources.length sc2, .slice na2 (smallR r).names.length nc2, .slice pa2 (smallR r).paths.length pc2] 24) more) (show S3.heap.size < ((S3.alloc (.cells #[.slice va2 (smallR r).verbs.length vc2, .slice ga2 (smallR r).groups.length gc2, .slice sa2 (smallR r).resources.length sc2, .slice na2 (smallR r).names.length nc2, .slice pa2 (smallR r).paths.length pc2] 24)).alloc (.cells #[.string more] 9)).heap.size by (simp only [World.size_alloc]; omega)) (by omega)).trans (blk_alloc (heap_alloc_new S3 (.cells #[.slice va2 (smallR r).verbs.length vc2, .slice ga2 (smallR r).groups.length gc2, .slice sa2 (smallR r).resources.length sc2, .slice na2 (smallR r).names.length nc2, .slice pa2 (smallR r).paths.length pc2] 24)) (.cells #[.string more] 9)); have f5 := blk_frozen g5 4; have c5 := blk_cell g5 4; have bb3 := below_own (w0 := S3) (chain (below_new S3 (.cells #[.slice va2 (smallR r).verbs.length vc2, .slice ga2 (smallR r).groups.length gc2, .slice sa2 (smallR r).resources.length sc2, .slice na2 (smallR r).names.length nc2, .slice pa2 (smallR r).paths.length pc2] 24)) (below_new _ (.cells #[.string more] 9))) hg3 (made_one S3 (.cells #[.slice va2 (smallR r).verbs.length vc2, .slice ga2 (smallR r).groups.length gc2, .slice sa2 (smallR r).resources.length sc2, .slice na2 (smallR r).names.length nc2, .slice pa2 (smallR r).paths.length pc2] 24) more) (by omega)))
  obtain ⟨S4, hT3⟩ : ∃ T, T = X3.setCell ⟨S3.heap.size, 4, none⟩ (.slice oa3 (1 + (smallR r).paths.length) oc3) := ⟨_, rfl⟩
  have hk3 : S4.heap[S3.heap.size]? = some (.cells #[.slice va2 (smallR r).verbs.length vc2, .slice ga2 (smallR r).groups.length gc2, .slice sa2 (smallR r).resources.length sc2, .slice na2 (smallR r).names.length nc2, .slice oa3 (1 + (smallR r).paths.length) oc3] 24) := by rw [hT3]; exact blk_set g5 4 _
  have hb3 : Below S3.heap.size S3 S4 := by rw [hT3]; exact bb3.setCell (p := ⟨S3.heap.size, 4, none⟩) (Nat.le_refl _) _
  have ho3 := own_set hown3 g5 (by decide) 4 (.slice oa3 (1 + (smallR r).paths.length) oc3)
  rw [← hT3] at ho3 ⊢
  clear hT3
  have H4 := chain H3 hb3
  have row3 : RowAt B (text B) S4 (.slice oa3 (1 + (smallR r).paths.length) oc3) (more :: (smallR r).paths) := by
    have hL := Lists.append (Lists.one (r := text B) (W := S4) (cs := [.string more]) (x := more) ⟨rfl, hmo⟩) (hL3.later (chain b4 H4))
    exact RowAt.of_own (r := text B) (css := [[.string more]] ++ css3) (by rw [List.flatten_append]; exact ho3) (by rw [List.length_cons]; omega) hL (by rw [List.length_cons]; omega)
  clear p0 p1 p2 p3 p4 z0 g5 f5 c5 gr ga ho3 hown3 hg3 hL3 bb3
  obtain ⟨gr, ga⟩ := GR.out _ H4
  have p0 := blk_cell gr 0
  have p1 := blk_cell gr 1
  have p2 := blk_cell gr 2
  have p3 := blk_cell gr 3
  have p4 := blk_cell gr 4
  go_upto_region 14 with (fail)
  have K := Lib.hid (show ∀ W, Below (S4.alloc (.cells #[.slice va2 (smallR r).verbs.length vc2, .slice ga2 (smallR r).groups.length gc2, .slice sa2 (smallR r).resources.length sc2, .slice none 0 0, .slice pa2 (smallR r).paths.length pc2] 24)).heap.size (S4.alloc (.cells #[.slice va2 (smallR r).verbs.length vc2, .slice ga2 (smallR r).groups.length gc2, .slice sa2 (smallR r).resources.length sc2, .slice none 0 0, .slice pa2 (smallR r).paths.length pc2] 24)) W → (W.heap[w.heap.size + 1]? = some (.cells #[.string x.verb, .string x.group, .string x.resource, .string x.part, .string x.name, .string x.space, .string x.path] 26)) ∧ (ruAt B W (.slice oa0 (1 + (smallR r).verbs.length) oc0) (.slice ga2 (smallR r).groups.length gc2) (.slice sa2 (smallR r).resources.length sc2) (.slice na2 (smallR r).names.length nc2) (.slice pa2 (smallR r).paths.length pc2) (moreV more (smallR r)) ∧ W.heap[S0.heap.size]? = some (.cells #[.slice oa0 (1 + (smallR r).verbs.length) oc0, .slice ga2 (smallR r).groups.length gc2, .slice sa2 (smallR r).resources.length sc2, .slice na2 (smallR r).names.length nc2, .slice pa2 (smallR r).paths.length pc2] 24)) ∧ (ruAt B W (.slice va2 (smallR r).verbs.length vc2) (.slice oa1 (1 + (smallR r).groups.length) oc1) (.slice sa2 (smallR r).resources.length sc2) (.slice na2 (smallR r).names.length nc2) (.slice pa2 (smallR r).paths.length pc2) (moreG more (smallR r)) ∧ W.heap[S1.heap.size]? = some (.cells #[.slice va2 (smallR r).verbs.length vc2, .slice oa1 (1 + (smallR r).groups.length) oc1, .slice sa2 (smallR r).resources.length sc2, .slice na2 (smallR r).names.length nc2, .slice pa2 (smallR r).paths.length pc2] 24)) ∧ (ruAt B W (.slice va2 (smallR r).verbs.length vc2) (.slice ga2 (smallR r).groups.length gc2) (.slice oa2 (1 + (smallR r).resources.length) oc2) (.slice na2 (smallR r).names.length nc2) (.slice pa2 (smallR r).paths.length pc2) (moreS more (smallR r)) ∧ W.heap[S2.heap.size]? = some (.cells #[.slice va2 (smallR r).verbs.length vc2, .slice ga2 (smallR r).groups.length gc2, .slice oa2 (1 + (smallR r).resources.length) oc2, .slice na2 (smallR r).names.length nc2, .slice pa2 (smallR r).paths.length pc2] 24)) ∧ (ruAt B W (.slice va2 (smallR r).verbs.length vc2) (.slice ga2 (smallR r).groups.length gc2) (.slice sa2 (smallR r).resources.length sc2) (.slice na2 (smallR r).names.length nc2) (.slice oa3 (1 + (smallR r).paths.length) oc3) (moreP more (smallR r)) ∧ W.heap[S3.heap.size]? = some (.cells #[.slice va2 (smallR r).verbs.length vc2, .slice ga2 (smallR r).groups.length gc2, .slice sa2 (smallR r).resources.length sc2, .slice na2 (smallR r).names.length nc2, .slice oa3 (1 + (smallR r).paths.length) oc3] 24)) ∧ (ruAt B W (.slice va2 (smallR r).verbs.length vc2) (.slice ga2 (smallR r).groups.length gc2) (.slice sa2 (smallR r).resources.length sc2) (.slice none 0 0) (.slice pa2 (smallR r).paths.length pc2) (lessN (smallR r)) ∧ W.heap[S4.heap.size]? = some (.cells #[.slice va2 (smallR r).verbs.length vc2, .slice ga2 (smallR r).groups.length gc2, .slice sa2 (smallR r).resources.length sc2, .slice none 0 0, .slice pa2 (smallR r).paths.length pc2] 24)) from fun W hW => by
    refine ⟨(GR.out W (chain H4 (chain (below_new S4 (.cells #[.slice va2 (smallR r).verbs.length vc2, .slice ga2 (smallR r).groups.length gc2, .slice sa2 (smallR r).resources.length sc2, .slice none 0 0, .slice pa2 (smallR r).paths.length pc2] 24)) hW))).2, ⟨⟨row0.later (chain (chain (chain (chain hb1 hb2) hb3) (below_new S4 (.cells #[.slice va2 (smallR r).verbs.length vc2, .slice ga2 (smallR r).groups.length gc2, .slice sa2 (smallR r).resources.length sc2, .slice none 0 0, .slice pa2 (smallR r).paths.length pc2] 24))) hW), hr2.2.1.later (chain b4 (chain H4 (chain (below_new S4 (.cells #[.slice va2 (smallR r).verbs.length vc2, .slice ga2 (smallR r).groups.length gc2, .slice sa2 (smallR r).resources.length sc2, .slice none 0 0, .slice pa2 (smallR r).paths.length pc2] 24)) hW))), hr2.2.2.1.later (chain b4 (chain H4 (chain (below_new S4 (.cells #[.slice va2 (smallR r).verbs.length vc2, .slice ga2 (smallR r).groups.length gc2, .slice sa2 (smallR r).resources.length sc2, .slice none 0 0, .slice pa2 (smallR r).paths.length pc2] 24)) hW))), hr2.2.2.2.1.later (chain b4 (chain H4 (chain (below_new S4 (.cells #[.slice va2 (smallR r).verbs.length vc2, .slice ga2 (smallR r).groups.length gc2, .slice sa2 (smallR r).resources.length sc2, .slice none 0 0, .slice pa2 (smallR r).paths.length pc2] 24)) hW))), hr2.2.2.2.2.later (chain b4 (chain H4 (chain (below_new S4 (.cells #[.slice va2 (smallR r).verbs.length vc2, .slice ga2 (smallR r).groups.length gc2, .slice sa2 (smallR r).resources.length sc2, .slice none 0 0, .slice pa2 (smallR r).paths.length pc2] 24)) hW)))⟩, blk_later (blk_alloc (blk_later (blk_later (blk_later hk0 hb1) hb2) hb3) (.cells #[.slice va2 (smallR r).verbs.length vc2, .slice ga2 (smallR r).groups.length gc2, .slice sa2 (smallR r).resources.length sc2, .slice none 0 0, .slice pa2 (smallR r).paths.length pc2] 24)) hW⟩, ⟨⟨hr2.1.later (chain b4 (chain H4 (chain (below_new S4 (.cells #[.slice va2 (smallR r).verbs.length vc2, .slice ga2 (smallR r).groups.length gc2, .slice sa2 (smallR r).resources.length sc2, .slice none 0 0, .slice pa2 (smallR r).paths.length pc2] 24)) hW))), row1.later (chain (chain (chain hb2 hb3) (below_new S4 (.cells #[.slice va2 (smallR r).verbs.length vc2, .slice ga2 (smallR r).groups.length gc2, .slice sa2 (smallR r).resources.length sc2, .slice none 0 0, .slice pa2 (smallR r).paths.length pc2] 24))) hW), hr2.2.2.1.later (chain b4 (chain H4 (chain (below_new S4 (.cells #[.slice va2 (smallR r).verbs.length vc2, .slice ga2 (smallR r).groups.length gc2, .slice sa2 (smallR r).resources.length sc2, .slice none 0 0, .slice pa2 (smallR r).paths.length pc2] 24)) hW))), hr2.2.2.2.1.later (chain b4 (chain H4 (chain (below_new S4 (.cells #[.slice va2 (smallR r).verbs.length vc2, .slice ga2 (smallR r).groups.length gc2, .slice sa2 (smallR r).resources.length sc2, .slice none 0 0, .slice pa2 (smallR r).paths.length pc2] 24)) hW))), hr2.2.2.2.2.later (chain b4 (chain H4 (chain (below_new S4 (.cells #[.slice va2 (smallR r).verbs.length vc2, .slice ga2 (smallR r).groups.length gc2, .slice sa2 (smallR r).resources.length sc2, .slice none 0 0, .slice pa2 (smallR r).paths.length pc2] 24)) hW)))⟩, blk_later (blk_alloc (blk_later (blk_later hk1 hb2) hb3) (.cells #[.slice va2 (smallR r).verbs.length vc2, .slice ga2 (smallR r).groups.length gc2, .slice sa2 (smallR r).resources.length sc2, .slice none 0 0, .slice pa2 (smallR r).paths.length pc2] 24)) hW⟩, ⟨⟨hr2.1.later (chain b4 (chain H4 (chain (below_new S4 (.cells #[.slice va2 (smallR r).verbs.length vc2, .slice ga2 (smallR r).groups.length gc2, .slice sa2 (smallR r).resources.length sc2, .slice none 0 0, .slice pa2 (smallR r).paths.length pc2] 24)) hW))), hr2.2.1.later (chain b4 (chain H4 (chain (below_new S4 (.cells #[.slice va2 (smallR r).verbs.length vc2, .slice ga2 (smallR r).groups.length gc2, .slice sa2 (smallR r).resources.length sc2, .slice none 0 0, .slice pa2 (smallR r).paths.length pc2] 24)) hW))), row2.later (chain (chain (hb3) (below_new S4 (.cells #[.slice va2 (smallR r).verbs.length vc2, .slice ga2 (smallR r).groups.length gc2, .slice sa2 (smallR r).resources.length sc2, .slice none 0 0, .slice pa2 (smallR r).paths.length pc2] 24))) hW), hr2.2.2.2.1.later (chain b4 (chain H4 (chain (below_new S4 (.cells #[.slice va2 (smallR r).verbs.length vc2, .slice ga2 (smallR r).groups.length gc2, .slice sa2 (smallR r).resources.length sc2, .slice none 0 0, .slice pa2 (smallR r).paths.length pc2] 24)) hW))), hr2.2.2.2.2.later (chain b4 (chain H4 (chain (below_new S4 (.cells #[.slice va2 (smallR r).verbs.length vc2, .slice ga2 (smallR r).groups.length gc2, .slice sa2 (smallR r).resources.length sc2, .slice none 0 0, .slice pa2 (smallR r).paths.length pc2] 24)) hW)))⟩, blk_later (blk_alloc (blk_later hk2 hb3) (.cells #[.slice va2 (smallR r).verbs.length vc2, .slice ga2 (smallR r).groups.length gc2, .slice sa2 (smallR r).resources.length sc2, .slice none 0 0, .slice pa2 (smallR r).paths.length pc2] 24)) hW⟩, ⟨⟨hr2.1.later (chain b4 (chain H4 (chain (below_new S4 (.cells #[.slice va2 (smallR r).verbs.length vc2, .slice ga2 (smallR r).groups.length gc2, .slice sa2 (smallR r).resources.length sc2, .slice none 0 0, .slice pa2 (smallR r).paths.length pc2] 24)) hW))), hr2.2.1.later (chain b4 (chain H4 (chain (below_new S4 (.cells #[.slice va2 (smallR r).verbs.length vc2, .slice ga2 (smallR r).groups.length gc2, .slice sa2 (smallR r).resources.length sc2, .slice none 0 0, .slice pa2 (smallR r).paths.length pc2] 24)) hW))), hr2.2.2.1.later (chain b4 (chain H4 (chain (below_new S4 (.cells #[.slice va2 (smallR r).verbs.length vc2, .slice ga2 (smallR r).groups.length gc2, .slice sa2 (smallR r).resources.length sc2, .slice none 0 0, .slice pa2 (smallR r).paths.length pc2] 24)) hW))), hr2.2.2.2.1.later (chain b4 (chain H4 (chain (below_new S4 (.cells #[.slice va2 (smallR r).verbs.length vc2, .slice ga2 (smallR r).groups.length gc2, .slice sa2 (smallR r).resources.length sc2, .slice none 0 0, .slice pa2 (smallR r).paths.length pc2] 24)) hW))), row3.later (chain (chain (Below.refl _ _) (below_new S4 (.cells #[.slice va2 (smallR r).verbs.length vc2, .slice ga2 (smallR r).groups.length gc2, .slice sa2 (smallR r).resources.length sc2, .slice none 0 0, .slice pa2 (smallR r).paths.length pc2] 24))) hW)⟩, blk_later (blk_alloc hk3 (.cells #[.slice va2 (smallR r).verbs.length vc2, .slice ga2 (smallR r).groups.length gc2, .slice sa2 (smallR r).resources.length sc2, .slice none 0 0, .slice pa2 (smallR r).paths.length pc2] 24)) hW⟩, ⟨⟨hr2.1.later (chain b4 (chain H4 (chain (below_new S4 (.cells #[.slice va2 (smallR r).verbs.length vc2, .slice ga2 (smallR r).groups.length gc2, .slice sa2 (smallR r).resources.length sc2, .slice none 0 0, .slice pa2 (smallR r).paths.length pc2] 24)) hW))), hr2.2.1.later (chain b4 (chain H4 (chain (below_new S4 (.cells #[.slice va2 (smallR r).verbs.length vc2, .slice ga2 (smallR r).groups.length gc2, .slice sa2 (smallR r).resources.length sc2, .slice none 0 0, .slice pa2 (smallR r).paths.length pc2] 24)) hW))), hr2.2.2.1.later (chain b4 (chain H4 (chain (below_new S4 (.cells #[.slice va2 (smallR r).verbs.length vc2, .slice ga2 (smallR r).groups.length gc2, .slice sa2 (smallR r).resources.length sc2, .slice none 0 0, .slice pa2 (smallR r).paths.length pc2] 24)) hW))), row_none _, hr2.2.2.2.2.later (chain b4 (chain H4 (chain (below_new S4 (.cells #[.slice va2 (smallR r).verbs.length vc2, .slice ga2 (smallR r).groups.length gc2, .slice sa2 (smallR r).resources.length sc2, .slice none 0 0, .slice pa2 (smallR r).paths.length pc2] 24)) hW)))⟩, blk_later (heap_alloc_new S4 (.cells #[.slice va2 (smallR r).verbs.length vc2, .slice ga2 (smallR r).groups.length gc2, .slice sa2 (smallR r).resources.length sc2, .slice none 0 0, .slice pa2 (smallR r).paths.length pc2] 24)) hW⟩⟩)
  have HS := chain b4 (chain H4 (below_new S4 (.cells #[.slice va2 (smallR r).verbs.length vc2, .slice ga2 (smallR r).groups.length gc2, .slice sa2 (smallR r).resources.length sc2, .slice none 0 0, .slice pa2 (smallR r).paths.length pc2] 24)))
  clear p0 p1 p2 p3 p4 gr ga
  cases hd with
  | true =>
    cases t1 : (more.toList == [42]) <;>
    ·
      have hX := Below.refl (S4.alloc (.cells #[.slice va2 (smallR r).verbs.length vc2, .slice ga2 (smallR r).groups.length gc2, .slice sa2 (smallR r).resources.length sc2, .slice none 0 0, .slice pa2 (smallR r).paths.length pc2] 24)).heap.size (S4.alloc (.cells #[.slice va2 (smallR r).verbs.length vc2, .slice ga2 (smallR r).groups.length gc2, .slice sa2 (smallR r).resources.length sc2, .slice none 0 0, .slice pa2 (smallR r).paths.length pc2] 24))
      have hq := K.out _ hX
      have ga := hq.1
      have gb := (hq.2.1).2
      have p0 := blk_cell gb 0
      have p1 := blk_cell gb 1
      have p2 := blk_cell gb 2
      have p3 := blk_cell gb 3
      have p4 := blk_cell gb 4
      have a0 := blk_cell ga 0
      have a1 := blk_cell ga 1
      have a2 := blk_cell ga 2
      have a3 := blk_cell ga 3
      have a4 := blk_cell ga 4
      have a5 := blk_cell ga 5
      have a6 := blk_cell ga 6
      have cq := Allows_any B hB _ _ _ _ _ _ x _ (hq.2.1).1 hx
      rw [more_v HD.out] at cq
      clear hq ga gb
      go_wp2_with fail
      refine cq.mono ?_
      rintro e Y0 ⟨rfl, hvY0⟩
      have hY0 := chain hX hvY0
      clear p0 p1 p2 p3 p4 a0 a1 a2 a3 a4 a5 a6 cq
      have a0 := blk_cell (K.out _ hY0).1 0
      have a1 := blk_cell (K.out _ hY0).1 1
      have hq := K.out _ hY0
      have ga := hq.1
      have gb := (hq.2.2.1).2
      have p0 := blk_cell gb 0
      have p1 := blk_cell gb 1
      have p2 := blk_cell gb 2
      have p3 := blk_cell gb 3
      have p4 := blk_cell gb 4
      have a0 := blk_cell ga 0
      have a1 := blk_cell ga 1
      have a2 := blk_cell ga 2
      have a3 := blk_cell ga 3
      have a4 := blk_cell ga 4
      have a5 := blk_cell ga 5
      have a6 := blk_cell ga 6
      have cq := Allows_any B hB _ _ _ _ _ _ x _ (hq.2.2.1).1 hx
      rw [more_g HD.out] at cq
      clear hq ga gb
      go_wp2_with fail
      refine cq.mono ?_
      rintro e Y1 ⟨rfl, hvY1⟩
      have hY1 := chain hY0 hvY1
      clear p0 p1 p2 p3 p4 a0 a1 a2 a3 a4 a5 a6 cq
      have a0 := blk_cell (K.out _ hY1).1 0
      have a1 := blk_cell (K.out _ hY1).1 1
      have hq := K.out _ hY1
      have ga := hq.1
      have gb := (hq.2.2.2.1).2
      have p0 := blk_cell gb 0
      have p1 := blk_cell gb 1
      have p2 := blk_cell gb 2
      have p3 := blk_cell gb 3
      have p4 := blk_cell gb 4
      have a0 := blk_cell ga 0
      have a1 := blk_cell ga 1
      have a2 := blk_cell ga 2
      have a3 := blk_cell ga 3
      have a4 := blk_cell ga 4
      have a5 := blk_cell ga 5
      have a6 := blk_cell ga 6
      have cq := Allows_any B hB _ _ _ _ _ _ x _ (hq.2.2.2.1).1 hx
      rw [more_s HD.out] at cq
      clear hq ga gb
      go_wp2_with fail
      refine cq.mono ?_
      rintro e Y2 ⟨rfl, hvY2⟩
      have hY2 := chain hY1 hvY2
      clear p0 p1 p2 p3 p4 a0 a1 a2 a3 a4 a5 a6 cq
      have a0 := blk_cell (K.out _ hY2).1 0
      have a1 := blk_cell (K.out _ hY2).1 1
      have hq := K.out _ hY2
      have ga := hq.1
      have gb := (hq.2.2.2.2.1).2
      have p0 := blk_cell gb 0
      have p1 := blk_cell gb 1
      have p2 := blk_cell gb 2
      have p3 := blk_cell gb 3
      have p4 := blk_cell gb 4
      have a0 := blk_cell ga 0
      have a1 := blk_cell ga 1
      have a2 := blk_cell ga 2
      have a3 := blk_cell ga 3
      have a4 := blk_cell ga 4
      have a5 := blk_cell ga 5
      have a6 := blk_cell ga 6
      have cq := Allows_any B hB _ _ _ _ _ _ x _ (hq.2.2.2.2.1).1 hx
      rw [more_p HD.out] at cq
      clear hq ga gb
      go_wp2_with fail
      refine cq.mono ?_
      rintro e Y3 ⟨rfl, hvY3⟩
      have hY3 := chain hY2 hvY3
      clear p0 p1 p2 p3 p4 a0 a1 a2 a3 a4 a5 a6 cq
      have a0 := blk_cell (K.out _ hY3).1 0
      have a1 := blk_cell (K.out _ hY3).1 1
      have hq := K.out _ hY3
      have ga := hq.1
      have gb := (hq.2.2.2.2.2).2
      have p0 := blk_cell gb 0
      have p1 := blk_cell gb 1
      have p2 := blk_cell gb 2
      have p3 := blk_cell gb 3
      have p4 := blk_cell gb 4
      have a0 := blk_cell ga 0
      have a1 := blk_cell ga 1
      have a2 := blk_cell ga 2
      have a3 := blk_cell ga 3
      have a4 := blk_cell ga 4
      have a5 := blk_cell ga 5
      have a6 := blk_cell ga 6
      have cq := Allows_any B hB _ _ _ _ _ _ x _ (hq.2.2.2.2.2).1 hx
      rw [less_n HD.out] at cq
      clear hq ga gb
      go_wp2_with fail
      refine cq.mono ?_
      rintro e Y4 ⟨rfl, hvY4⟩
      have hY4 := chain hY3 hvY4
      clear p0 p1 p2 p3 p4 a0 a1 a2 a3 a4 a5 a6 cq
      have a0 := blk_cell (K.out _ hY4).1 0
      have a1 := blk_cell (K.out _ hY4).1 1
      go_wp2
      go_ret
      exact ⟨rfl, chain HS hY4⟩
  | false =>
    cases t1 : (more.toList == [42]) with
    | true =>
      have hX := Below.refl (S4.alloc (.cells #[.slice va2 (smallR r).verbs.length vc2, .slice ga2 (smallR r).groups.length gc2, .slice sa2 (smallR r).resources.length sc2, .slice none 0 0, .slice pa2 (smallR r).paths.length pc2] 24)).heap.size (S4.alloc (.cells #[.slice va2 (smallR r).verbs.length vc2, .slice ga2 (smallR r).groups.length gc2, .slice sa2 (smallR r).resources.length sc2, .slice none 0 0, .slice pa2 (smallR r).paths.length pc2] 24))
      go_wp2
      go_ret
      exact ⟨rfl, chain HS hX⟩
    | false =>
      cases t2 : (x.verb.toList == more.toList) with
      | false =>
        have hX := Below.refl (S4.alloc (.cells #[.slice va2 (smallR r).verbs.length vc2, .slice ga2 (smallR r).groups.length gc2, .slice sa2 (smallR r).resources.length sc2, .slice none 0 0, .slice pa2 (smallR r).paths.length pc2] 24)).heap.size (S4.alloc (.cells #[.slice va2 (smallR r).verbs.length vc2, .slice ga2 (smallR r).groups.length gc2, .slice sa2 (smallR r).resources.length sc2, .slice none 0 0, .slice pa2 (smallR r).paths.length pc2] 24))
        have hq := K.out _ hX
        have ga := hq.1
        have gb := (hq.2.1).2
        have p0 := blk_cell gb 0
        have p1 := blk_cell gb 1
        have p2 := blk_cell gb 2
        have p3 := blk_cell gb 3
        have p4 := blk_cell gb 4
        have a0 := blk_cell ga 0
        have a1 := blk_cell ga 1
        have a2 := blk_cell ga 2
        have a3 := blk_cell ga 3
        have a4 := blk_cell ga 4
        have a5 := blk_cell ga 5
        have a6 := blk_cell ga 6
        have cq := Allows_any B hB _ _ _ _ _ _ x _ (hq.2.1).1 hx
        rw [only_v HD.out t1 t2] at cq
        clear hq ga gb
        go_wp2_with fail
        refine cq.mono ?_
        rintro e Y0 ⟨rfl, hvY0⟩
        have hY0 := chain hX hvY0
        clear p0 p1 p2 p3 p4 a0 a1 a2 a3 a4 a5 a6 cq
        have a0 := blk_cell (K.out _ hY0).1 0
        have a1 := blk_cell (K.out _ hY0).1 1
        cases t3 : (x.group.toList == more.toList) with
        | false =>
          have hq := K.out _ hY0
          have ga := hq.1
          have gb := (hq.2.2.1).2
          have p0 := blk_cell gb 0
          have p1 := blk_cell gb 1
          have p2 := blk_cell gb 2
          have p3 := blk_cell gb 3
          have p4 := blk_cell gb 4
          have a0 := blk_cell ga 0
          have a1 := blk_cell ga 1
          have a2 := blk_cell ga 2
          have a3 := blk_cell ga 3
          have a4 := blk_cell ga 4
          have a5 := blk_cell ga 5
          have a6 := blk_cell ga 6
          have cq := Allows_any B hB _ _ _ _ _ _ x _ (hq.2.2.1).1 hx
          rw [only_g HD.out t1 t3] at cq
          clear hq ga gb
          go_wp2_with fail
          refine cq.mono ?_
          rintro e Y1 ⟨rfl, hvY1⟩
          have hY1 := chain hY0 hvY1
          clear p0 p1 p2 p3 p4 a0 a1 a2 a3 a4 a5 a6 cq
          have a0 := blk_cell (K.out _ hY1).1 0
          have a1 := blk_cell (K.out _ hY1).1 1
          go_wp2
          go_ret
          exact ⟨rfl, chain HS hY1⟩
        | true =>
          obtain ⟨t4, ht4⟩ : ∃ t4, allowsB (moreG more (smallR r)) x = t4 := ⟨_, rfl⟩
          cases t4 <;>
          ·
            have hq := K.out _ hY0
            have ga := hq.1
            have gb := (hq.2.2.1).2
            have p0 := blk_cell gb 0
            have p1 := blk_cell gb 1
            have p2 := blk_cell gb 2
            have p3 := blk_cell gb 3
            have p4 := blk_cell gb 4
            have a0 := blk_cell ga 0
            have a1 := blk_cell ga 1
            have a2 := blk_cell ga 2
            have a3 := blk_cell ga 3
            have a4 := blk_cell ga 4
            have a5 := blk_cell ga 5
            have a6 := blk_cell ga 6
            have cq := Allows_any B hB _ _ _ _ _ _ x _ (hq.2.2.1).1 hx
            rw [ht4] at cq
            clear hq ga gb
            go_wp2_with fail
            refine cq.mono ?_
            rintro e Y1 ⟨rfl, hvY1⟩
            have hY1 := chain hY0 hvY1
            clear p0 p1 p2 p3 p4 a0 a1 a2 a3 a4 a5 a6 cq
            have a0 := blk_cell (K.out _ hY1).1 0
            have a1 := blk_cell (K.out _ hY1).1 1
            go_wp2
            go_ret
            exact ⟨rfl, chain HS hY1⟩
      | true =>
        obtain ⟨t5, ht5⟩ : ∃ t5, allowsB (moreV more (smallR r)) x = t5 := ⟨_, rfl⟩
        cases t5 <;>
        ·
          have hX := Below.refl (S4.alloc (.cells #[.slice va2 (smallR r).verbs.length vc2, .slice ga2 (smallR r).groups.length gc2, .slice sa2 (smallR r).resources.length sc2, .slice none 0 0, .slice pa2 (smallR r).paths.length pc2] 24)).heap.size (S4.alloc (.cells #[.slice va2 (smallR r).verbs.length vc2, .slice ga2 (smallR r).groups.length gc2, .slice sa2 (smallR r).resources.length sc2, .slice none 0 0, .slice pa2 (smallR r).paths.length pc2] 24))
          have hq := K.out _ hX
          have ga := hq.1
          have gb := (hq.2.1).2
          have p0 := blk_cell gb 0
          have p1 := blk_cell gb 1
          have p2 := blk_cell gb 2
          have p3 := blk_cell gb 3
          have p4 := blk_cell gb 4
          have a0 := blk_cell ga 0
          have a1 := blk_cell ga 1
          have a2 := blk_cell ga 2
          have a3 := blk_cell ga 3
          have a4 := blk_cell ga 4
          have a5 := blk_cell ga 5
          have a6 := blk_cell ga 6
          have cq := Allows_any B hB _ _ _ _ _ _ x _ (hq.2.1).1 hx
          rw [ht5] at cq
          clear hq ga gb
          go_wp2_with fail
          refine cq.mono ?_
          rintro e Y0 ⟨rfl, hvY0⟩
          have hY0 := chain hX hvY0
          clear p0 p1 p2 p3 p4 a0 a1 a2 a3 a4 a5 a6 cq
          have a0 := blk_cell (K.out _ hY0).1 0
          have a1 := blk_cell (K.out _ hY0).1 1
          cases t3 : (x.group.toList == more.toList) with
          | false =>
            have hq := K.out _ hY0
            have ga := hq.1
            have gb := (hq.2.2.1).2
            have p0 := blk_cell gb 0
            have p1 := blk_cell gb 1
            have p2 := blk_cell gb 2
            have p3 := blk_cell gb 3
            have p4 := blk_cell gb 4
            have a0 := blk_cell ga 0
            have a1 := blk_cell ga 1
            have a2 := blk_cell ga 2
            have a3 := blk_cell ga 3
            have a4 := blk_cell ga 4
            have a5 := blk_cell ga 5
            have a6 := blk_cell ga 6
            have cq := Allows_any B hB _ _ _ _ _ _ x _ (hq.2.2.1).1 hx
            rw [only_g HD.out t1 t3] at cq
            clear hq ga gb
            go_wp2_with fail
            refine cq.mono ?_
            rintro e Y1 ⟨rfl, hvY1⟩
            have hY1 := chain hY0 hvY1
            clear p0 p1 p2 p3 p4 a0 a1 a2 a3 a4 a5 a6 cq
            have a0 := blk_cell (K.out _ hY1).1 0
            have a1 := blk_cell (K.out _ hY1).1 1
            go_wp2
            go_ret
            exact ⟨rfl, chain HS hY1⟩
          | true =>
            obtain ⟨t4, ht4⟩ : ∃ t4, allowsB (moreG more (smallR r)) x = t4 := ⟨_, rfl⟩
            cases t4 <;>
            ·
              have hq := K.out _ hY0
              have ga := hq.1
              have gb := (hq.2.2.1).2
              have p0 := blk_cell gb 0
              have p1 := blk_cell gb 1
              have p2 := blk_cell gb 2
              have p3 := blk_cell gb 3
              have p4 := blk_cell gb 4
              have a0 := blk_cell ga 0
              have a1 := blk_cell ga 1
              have a2 := blk_cell ga 2
              have a3 := blk_cell ga 3
              have a4 := blk_cell ga 4
              have a5 := blk_cell ga 5
              have a6 := blk_cell ga 6
              have cq := Allows_any B hB _ _ _ _ _ _ x _ (hq.2.2.1).1 hx
              rw [ht4] at cq
              clear hq ga gb
              go_wp2_with fail
              refine cq.mono ?_
              rintro e Y1 ⟨rfl, hvY1⟩
              have hY1 := chain hY0 hvY1
              clear p0 p1 p2 p3 p4 a0 a1 a2 a3 a4 a5 a6 cq
              have a0 := blk_cell (K.out _ hY1).1 0
              have a1 := blk_cell (K.out _ hY1).1 1
              go_wp2
              go_ret
              exact ⟨rfl, chain HS hY1⟩
end Go.Proofs.YthflpgeonllgdaaDoor.rul
