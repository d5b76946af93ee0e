/- Layer 8: the law RuleTells. -/
import Derived.Test.YthflpgeonllgdaaDoorRulAwake
import Derived.Test.YthflpgeonllgdaaDoorRulRChk
import Derived.Test.YthflpgeonllgdaaDoorRulRAtt
import Derived.Test.YthflpgeonllgdaaDoorRepQ
import Derived.Test.YthflpgeonllgdaaDoorRepK
namespace Go.Proofs.YthflpgeonllgdaaDoor.rul
open Go.RowKit Go.Proofs.YthflpgeonllgdaaDoor.rep Go.Proofs.YthflpgeonllgdaaDoor.lab

theorem set5 {w : World} {g : Nat} {T : TypeId} {a0 a1 a2 a3 a4 : Value} (u0 u1 u2 u3 u4 : Value) (h : w.heap[g]? = some (.cells #[a0, a1, a2, a3, a4] T (0, 0))) :
    (((((w.setCell ⟨g, 0, none⟩ u0).setCell ⟨g, 1, none⟩ u1).setCell ⟨g, 2, none⟩ u2).setCell ⟨g, 3, none⟩ u3).setCell ⟨g, 4, none⟩ u4).heap[g]? = some (.cells #[u0, u1, u2, u3, u4] T (0, 0)) :=
  blk_set (blk_set (blk_set (blk_set (blk_set h 0 u0) 1 u1) 2 u2) 3 u3) 4 u4
theorem far5 {w : World} {g k : Nat} {u0 u1 u2 u3 u4 : Value} (hk : k ≠ g) :
    (((((w.setCell ⟨g, 0, none⟩ u0).setCell ⟨g, 1, none⟩ u1).setCell ⟨g, 2, none⟩ u2).setCell ⟨g, 3, none⟩ u3).setCell ⟨g, 4, none⟩ u4).heap[k]? = w.heap[k]? := by
  rw [blk_far _ hk, blk_far _ hk, blk_far _ hk, blk_far _ hk, blk_far _ hk]
theorem below5 {B : Nat} {a w : World} {g : Nat} (u0 u1 u2 u3 u4 : Value) (h : Below B a w) (hg : B ≤ g) :
    Below B a (((((w.setCell ⟨g, 0, none⟩ u0).setCell ⟨g, 1, none⟩ u1).setCell ⟨g, 2, none⟩ u2).setCell ⟨g, 3, none⟩ u3).setCell ⟨g, 4, none⟩ u4) :=
  ((((h.setCell (p := ⟨g, 0, none⟩) hg u0).setCell (p := ⟨g, 1, none⟩) hg u1).setCell (p := ⟨g, 2, none⟩) hg u2).setCell (p := ⟨g, 3, none⟩) hg u3).setCell (p := ⟨g, 4, none⟩) hg u4
theorem blk_two (w : World) (cs ds : Array Value) (t u : TypeId) : ((w.alloc (.cells cs t)).alloc (.cells ds u)).heap[w.heap.size]? = some (.cells cs t) ∧ ((w.alloc (.cells cs t)).alloc (.cells ds u)).heap[w.heap.size + 1]? = some (.cells ds u) := by
  refine ⟨(Below.heap_alloc _ _ _ (by simp)).trans (heap_alloc_new _ _), ?_⟩
  have := heap_alloc_new (w.alloc (.cells cs t)) (.cells ds u)
  rwa [World.size_alloc] at this
set_option maxRecDepth 100000 in
set_option maxHeartbeats 4000000 in
theorem lawTells (B : Nat) (hB : B ≤ 1048576) (_hB2 : 100 ≤ B) (r : Ru) (v g s n p : Value) (paths : Bool) (x : Ak) (w : World) (hr : ruAt B w v g s n p r) (hx : akOk B x) (hm : nam.MaxL w) :
    Calls Tryd.prog 3 #[.agg #[v, g, s, n, p], .bool paths, .agg #[.string x.verb, .string x.group, .string x.resource, .string x.part, .string x.name, .string x.space, .string x.path]] w fun e w' => e = .returned (.bool true) ∧ Below w.heap.size w w' := by
  have hx1 : akOk 1048576 x := by obtain ⟨h1, h2, h3, h4, h5, h6, h7⟩ := hx; exact ⟨by omega, by omega, by omega, by omega, by omega, by omega, by omega⟩
  obtain ⟨⟨va, vc, rfl, hv⟩, ⟨ga, gc, rfl, hg⟩, ⟨sa, sc, rfl, hs⟩, ⟨na, nc, rfl, hn⟩, ⟨pa, pc, rfl, hp⟩⟩ := hr
  have hr : ruAt B w _ _ _ _ _ r := ⟨⟨va, vc, rfl, hv⟩, ⟨ga, gc, rfl, hg⟩, ⟨sa, sc, rfl, hs⟩, ⟨na, nc, rfl, hn⟩, ⟨pa, pc, rfl, hp⟩⟩
  clear hv hg hs hn hp
  have b0 := chain (below_new w (.cells #[.slice va r.verbs.length vc, .slice ga r.groups.length gc, .slice sa r.resources.length sc, .slice na r.names.length nc, .slice pa r.paths.length pc] 24)) (below_new _ (.cells #[.string x.verb, .string x.group, .string x.resource, .string x.part, .string x.name, .string x.space, .string x.path] 26))
  obtain ⟨h1, h2⟩ := blk_two w #[.slice va r.verbs.length vc, .slice ga r.groups.length gc, .slice sa r.resources.length sc, .slice na r.names.length nc, .slice pa r.paths.length pc] #[.string x.verb, .string x.group, .string x.resource, .string x.part, .string x.name, .string x.space, .string x.path] 24 26
  go_enter Tryd.func3, Tryd.ntmps3
  go_wp2_with fail
  generalize (w.alloc (.cells #[.slice va r.verbs.length vc, .slice ga r.groups.length gc, .slice sa r.resources.length sc, .slice na r.names.length nc, .slice pa r.paths.length pc] 24)).alloc (.cells #[.string x.verb, .string x.group, .string x.resource, .string x.part, .string x.name, .string x.space, .string x.path] 26) = w0 at *
  refine (awake_any _ (hm.later b0)).mono ?_
  rintro e w1 ⟨rfl, hb1⟩
  have b1 := chain b0 hb1
  have g1 := blk_later h1 hb1
  have g2 := blk_later h2 hb1
  have q0 : w1.cell? ⟨w.heap.size, 0, none⟩ = some (.slice va r.verbs.length vc) := blk_cell g1 0
  have q1 : w1.cell? ⟨w.heap.size, 1, none⟩ = some (.slice ga r.groups.length gc) := blk_cell g1 1
  have q2 : w1.cell? ⟨w.heap.size, 2, none⟩ = some (.slice sa r.resources.length sc) := blk_cell g1 2
  have q3 : w1.cell? ⟨w.heap.size, 3, none⟩ = some (.slice na r.names.length nc) := blk_cell g1 3
  have q4 : w1.cell? ⟨w.heap.size, 4, none⟩ = some (.slice pa r.paths.length pc) := blk_cell g1 4
  clear h1 h2
  go_wp2_with fail
  refine (small_any' B r _ _ _ _ _ w w1 hr).mono ?_
  rintro e w2 ⟨va2, vc2, ga2, gc2, sa2, sc2, na2, nc2, pa2, pc2, rfl, hr2, hb2⟩
  have b2 := chain b1 hb2
  have i1 := blk_later g1 hb2
  have i2 := blk_later g2 hb2
  have f0 := blk_frozen i1 0
  have f1 := blk_frozen i1 1
  have f2 := blk_frozen i1 2
  have f3 := blk_frozen i1 3
  have f4 := blk_frozen i1 4
  have z0 : w2.cell? ⟨w.heap.size, 0, none⟩ = some (.slice va r.verbs.length vc) := blk_cell i1 0
  have z1 : w2.cell? ⟨w.heap.size, 1, none⟩ = some (.slice ga r.groups.length gc) := blk_cell i1 1
  have z2 : w2.cell? ⟨w.heap.size, 2, none⟩ = some (.slice sa r.resources.length sc) := blk_cell i1 2
  have z3 : w2.cell? ⟨w.heap.size, 3, none⟩ = some (.slice na r.names.length nc) := blk_cell i1 3
  have z4 : w2.cell? ⟨w.heap.size, 4, none⟩ = some (.slice pa r.paths.length pc) := blk_cell i1 4
  clear q0 q1 q2 q3 q4
  go_wp2
  have e1 := Lib.hid (set5 (.slice va2 (smallR r).verbs.length vc2) (.slice ga2 (smallR r).groups.length gc2) (.slice sa2 (smallR r).resources.length sc2) (.slice na2 (smallR r).names.length nc2) (.slice pa2 (smallR r).paths.length pc2) i1)
  have e2 := Lib.hid ((far5 (w := w2) (g := w.heap.size) (k := w.heap.size + 1) (u0 := .slice va2 (smallR r).verbs.length vc2) (u1 := .slice ga2 (smallR r).groups.length gc2) (u2 := .slice sa2 (smallR r).resources.length sc2) (u3 := .slice na2 (smallR r).names.length nc2) (u4 := .slice pa2 (smallR r).paths.length pc2) (by omega)).trans i2)
  have b3 := Lib.hid (below5 (g := w.heap.size) (.slice va2 (smallR r).verbs.length vc2) (.slice ga2 (smallR r).groups.length gc2) (.slice sa2 (smallR r).resources.length sc2) (.slice na2 (smallR r).names.length nc2) (.slice pa2 (smallR r).paths.length pc2) b2 (Nat.le_refl _))
  obtain ⟨wf, hwf⟩ : ∃ wf, wf = (((((w2.setCell ⟨w.heap.size, 0, none⟩ (.slice va2 (smallR r).verbs.length vc2)).setCell ⟨w.heap.size, 1, none⟩ (.slice ga2 (smallR r).groups.length gc2)).setCell ⟨w.heap.size, 2, none⟩ (.slice sa2 (smallR r).resources.length sc2)).setCell ⟨w.heap.size, 3, none⟩ (.slice na2 (smallR r).names.length nc2)).setCell ⟨w.heap.size, 4, none⟩ (.slice pa2 (smallR r).paths.length pc2)) := ⟨_, rfl⟩
  rw [← hwf] at e1 e2 b3 ⊢
  clear hwf z0 z1 z2 z3 z4 f0 f1 f2 f3 f4 i1 i2 g1 g2
  have hl := blk_lt e1.out
  have hl2 := blk_lt e2.out
  have k0 := cell_below hl (blk_cell e1.out 0)
  have k1 := cell_below hl (blk_cell e1.out 1)
  have k2 := cell_below hl (blk_cell e1.out 2)
  have k3 := cell_below hl (blk_cell e1.out 3)
  have k4 := cell_below hl (blk_cell e1.out 4)
  have j0 := cell_below hl2 (blk_cell e2.out 0)
  have j1 := cell_below hl2 (blk_cell e2.out 1)
  have j2 := cell_below hl2 (blk_cell e2.out 2)
  have j3 := cell_below hl2 (blk_cell e2.out 3)
  have j4 := cell_below hl2 (blk_cell e2.out 4)
  have j5 := cell_below hl2 (blk_cell e2.out 5)
  have j6 := cell_below hl2 (blk_cell e2.out 6)
  obtain ⟨t1, ht1⟩ : ∃ t1, checkB (smallR r) paths = t1 := ⟨_, rfl⟩
  obtain ⟨t2, ht2⟩ : ∃ t2, attrB x = t2 := ⟨_, rfl⟩
  have C1 := Lib.hid (show ∀ W, Below wf.heap.size wf W → Calls Tryd.prog 12 #[.agg #[.slice va2 (smallR r).verbs.length vc2, .slice ga2 (smallR r).groups.length gc2, .slice sa2 (smallR r).resources.length sc2, .slice na2 (smallR r).names.length nc2, .slice pa2 (smallR r).paths.length pc2], .bool paths] W (fun e W' => e = .returned (.bool t1) ∧ Below W.heap.size W W') from fun W hW => by rw [← ht1]; exact Check_any B hB (smallR r) _ _ _ _ _ paths W (hr2.later (chain b3.out hW)) (hm.later (chain b3.out hW)))
  have C2 := Lib.hid (show ∀ W, Below wf.heap.size wf W → Calls Tryd.prog 13 #[.agg #[.slice va2 (smallR r).verbs.length vc2, .slice ga2 (smallR r).groups.length gc2, .slice sa2 (smallR r).resources.length sc2, .slice na2 (smallR r).names.length nc2, .slice pa2 (smallR r).paths.length pc2], .bool paths] W (fun e W' => e = .returned (.bool t1) ∧ Below W.heap.size W W') from fun W hW => by rw [← ht1]; exact rCheck_any B hB (smallR r) _ _ _ _ _ paths W (hr2.later (chain b3.out hW)))
  have C3 := Lib.hid (show ∀ W, Below wf.heap.size wf W → Calls Tryd.prog 14 #[.agg #[.string x.verb, .string x.group, .string x.resource, .string x.part, .string x.name, .string x.space, .string x.path]] W (fun e W' => e = .returned (.bool t2) ∧ Below W.heap.size W W') from fun W hW => by rw [← ht2]; exact Attr_any x hx1 W (hm.later (chain b3.out hW)))
  have C4 := Lib.hid (show ∀ W, Below wf.heap.size wf W → Calls Tryd.prog 15 #[.agg #[.string x.verb, .string x.group, .string x.resource, .string x.part, .string x.name, .string x.space, .string x.path]] W (fun e W' => e = .returned (.bool t2) ∧ Below W.heap.size W W') from fun W hW => by rw [← ht2]; exact rAttr_any x hx1 W)
  have mixed := mixed
  clear ht1 ht2 hr2 hr hm
  refine wp_region_quiet_below (by assumption) (by kernel_rfl) ?_
  repeat (quiet_step (first
    | (go_at_call 12; exact calls_below (C1.out _ (below_of_grown _ _)))
    | (go_at_call 13; exact calls_below (C2.out _ (below_of_grown _ _)))
    | (go_at_call 14; exact calls_below (C3.out _ (below_of_grown _ _)))
    | (go_at_call 15; exact calls_below (C4.out _ (below_of_grown _ _)))))
  refine wpQuiet_nil ?_
  intro _ hw'
  obtain ⟨⟨nq, osq⟩, hw''⟩ := hw'
  subst hw''
  go_wp2_with fail
  go_ret
  exact ⟨rfl, chain b3.out (below_of_grown nq osq)⟩
end Go.Proofs.YthflpgeonllgdaaDoor.rul
