/- Layer 8: the law RuleAllows. -/
import Derived.Test.YthflpgeonllgdaaDoorRulAwake
import Derived.Test.YthflpgeonllgdaaDoorRulPAny
import Derived.Test.YthflpgeonllgdaaDoorRepQ
import Derived.Test.YthflpgeonllgdaaDoorRepK
import Derived.Maps.AppendAt
namespace Go.Proofs.YthflpgeonllgdaaDoor.rul
open Go.RowKit Go.Proofs.YthflpgeonllgdaaDoor.rep Go.Proofs.YthflpgeonllgdaaDoor.lab

theorem info_parts {e : TypeId} {z : Value} {n b : Nat} (h : (Tryd.prog.info? e).map (fun i => (i.zero, i.size, i.bytes)) = some (some z, n, b)) : ∃ i, Tryd.prog.info? e = some i ∧ i.zero = some z ∧ i.size = n ∧ i.bytes = b := by
  cases hi : Tryd.prog.info? e with
  | none => rw [hi] at h; cases h
  | some i =>
    rw [hi] at h
    simp only [Option.map_some, Option.some.injEq, Prod.mk.injEq] at h
    exact ⟨i, rfl, h.1, h.2.1, h.2.2⟩
theorem info_Ru : (Tryd.prog.info? 24).map (fun i => (i.zero, i.size, i.bytes)) = some (some (.agg #[.slice none 0 0, .slice none 0 0, .slice none 0 0, .slice none 0 0, .slice none 0 0]), 5, 120) := by kernel_rfl
theorem take_snoc {α : Type} {l : List α} {k : Nat} (h : k < l.length) : l.take (k + 1) = l.take k ++ [l[k]] := List.take_succ_eq_append_getElem h
set_option maxRecDepth 100000 in
set_option maxHeartbeats 16000000 in
theorem lawAllows (B : Nat) (hB : B ≤ 140737488355328) (_hB2 : 100 ≤ B) (u : Value) (l : List Ru) (x : Ak) (w : World) (hu : RowAt B (ruR B) w u l) (hx : akOk B x) (hm : nam.MaxL w) :
    Calls Tryd.prog 4 #[u, .agg #[.string x.verb, .string x.group, .string x.resource, .string x.part, .string x.name, .string x.space, .string x.path]] w fun e w' => e = .returned (.bool true) ∧ Below w.heap.size w w' := by
  obtain ⟨i0, hi0, hz0, hz1, hz2⟩ := info_parts info_Ru
  obtain ⟨a, ac, rfl, _, _, hlB, hra⟩ := hu
  have HR := Lib.hid hra
  obtain ⟨_, _, x3, x4, _, _, x7⟩ := id hx
  have mixed := mixed
  clear hra
  have b0 := below_new w (.cells #[.string x.verb, .string x.group, .string x.resource, .string x.part, .string x.name, .string x.space, .string x.path] 26)
  have g0 := heap_alloc_new w (.cells #[.string x.verb, .string x.group, .string x.resource, .string x.part, .string x.name, .string x.space, .string x.path] 26)
  go_enter Tryd.func4, Tryd.ntmps4
  go_wp2_with fail
  generalize w.alloc (.cells #[.string x.verb, .string x.group, .string x.resource, .string x.part, .string x.name, .string x.space, .string x.path] 26) = w0 at *
  refine (awake_any _ (hm.later b0)).mono ?_
  rintro e w1 ⟨rfl, hb1⟩
  have b1 := chain b0 hb1
  have G1 := Lib.hid (show ∀ W, Below w1.heap.size w1 W → W.heap[w.heap.size]? = some (.cells #[.string x.verb, .string x.group, .string x.resource, .string x.part, .string x.name, .string x.space, .string x.path] 26) from fun W h => blk_later (blk_later g0 hb1) h)
  clear g0 hm
  go_wp2
  go_loopw [6, 7] (fun t i wr => ∃ (k : Nat) (css : List (List Value)), k ≤ 4 ∧ k ≤ l.length ∧ i = .int .i64 k ∧ Hid (wr.ownsRow w1.heap.size 24 5 t k css.flatten) ∧ Hid (Lists (ruR B) w css ((l.take k).map smallR)) ∧ Below w1.heap.size w1 wr) (fun _ i _ => 4 - (intOf i).toNat)
  case atStart => exact ⟨0, [], by omega, by omega, rfl, World.ownsRow_nil _ _ _ _, Lists.nil _ _, Below.refl _ _⟩
  case round =>
    obtain ⟨k, css, hk4, hkl, rfl, Hown, HL, hbr⟩ := hrel
    obtain ⟨oa, oc, rfl⟩ := own_form Hown.out
    obtain ⟨wl, rfl⟩ : ∃ w', w' = wr := ⟨wr, rfl⟩
    have hbw := chain b1 hbr
    by_cases hk : k < 4 ∧ k < l.length
    case pos =>
      obtain ⟨hka, hkb⟩ := hk
      have kia : (k : Int) < 4 := by omega
      have kib : (k : Int) < (l.length : Int) := by omega
      obtain ⟨bb, off, hva, hbl, cs, hat, hcell⟩ := HR.out.get hkb
      subst hva
      obtain ⟨v, g, s, n, p, hcs, hru⟩ := hat
      subst hcs
      obtain ⟨⟨va, vc, rfl, hv⟩, ⟨ga, gc, rfl, hg⟩, ⟨sa, sc, rfl, hs⟩, ⟨na, nc, rfl, hn⟩, ⟨pa, pc, rfl, hp⟩⟩ := hru
      have hru : ruAt B w _ _ _ _ _ l[k] := ⟨⟨va, vc, rfl, hv⟩, ⟨ga, gc, rfl, hg⟩, ⟨sa, sc, rfl, hs⟩, ⟨na, nc, rfl, hn⟩, ⟨pa, pc, rfl, hp⟩⟩
      clear hv hg hs hn hp
      have c0 : wl.cell? ⟨bb, off + k * 5, none⟩ = some (.slice va l[k].verbs.length vc) := (hbw.cell (p := ⟨bb, off + k * 5 + 0, none⟩) hbl).trans (hcell 0 _ rfl)
      have c1 : wl.cell? ⟨bb, off + k * 5 + 1, none⟩ = some (.slice ga l[k].groups.length gc) := (hbw.cell (p := ⟨bb, off + k * 5 + 1, none⟩) hbl).trans (hcell 1 _ rfl)
      have c2 : wl.cell? ⟨bb, off + k * 5 + 2, none⟩ = some (.slice sa l[k].resources.length sc) := (hbw.cell (p := ⟨bb, off + k * 5 + 2, none⟩) hbl).trans (hcell 2 _ rfl)
      have c3 : wl.cell? ⟨bb, off + k * 5 + 3, none⟩ = some (.slice na l[k].names.length nc) := (hbw.cell (p := ⟨bb, off + k * 5 + 3, none⟩) hbl).trans (hcell 3 _ rfl)
      have c4 : wl.cell? ⟨bb, off + k * 5 + 4, none⟩ = some (.slice pa l[k].paths.length pc) := (hbw.cell (p := ⟨bb, off + k * 5 + 4, none⟩) hbl).trans (hcell 4 _ rfl)
      clear hcell
      go_wp2_with fail
      refine (small_any' B l[k] _ _ _ _ _ w _ hru).mono ?_
      rintro e w4 ⟨va2, vc2, ga2, gc2, sa2, sc2, na2, nc2, pa2, pc2, rfl, hr2, hb4⟩
      have Hown4 := Lib.hid (own_stays Hown.out (fun i _ hi => hb4.block i hi))
      have hbl4 := chain hbr hb4
      have hAt := Lib.hid (show (ruR B).at_ w [.slice va2 (smallR l[k]).verbs.length vc2, .slice ga2 (smallR l[k]).groups.length gc2, .slice sa2 (smallR l[k]).resources.length sc2, .slice na2 (smallR l[k]).names.length nc2, .slice pa2 (smallR l[k]).paths.length pc2] (smallR l[k]) from ⟨_, _, _, _, _, rfl, hr2⟩)
      have s4 := hbl4.size
      go_wp2_with (first
        | (at_builtin; refine wpList_append_own_at (o := ⟨some 28, _, _, _, _, _⟩) _ rfl _ _ 32 rfl w1.heap.size 24 i0 _ 5 120 Tryd.underlying32 hi0 hz0 hz1 hz2 rfl (by decide) _ k css.flatten rfl ((Hown4.out.alloc _).alloc _) ⟨w4.heap.size + 1, 0, none⟩ 1 1 [.slice va2 (smallR l[k]).verbs.length vc2, .slice ga2 (smallR l[k]).groups.length gc2, .slice sa2 (smallR l[k]).resources.length sc2, .slice na2 (smallR l[k]).names.length nc2, .slice pa2 (smallR l[k]).paths.length pc2] rfl rfl (cells_new (by simp) _ _) (by intro u hu; simp only [List.mem_cons, List.not_mem_nil, or_false] at hu; rcases hu with rfl | rfl | rfl | rfl | rfl <;> rfl) (by unfold maxLen; omega) (by omega) (by simp; omega) ?_; intro v' w5 hown5 hg5 _ hat5; obtain ⟨qa, qc, rfl⟩ := own_form hown5; have b45 := below_own (w0 := w1) (chain hbl4 (chain (below_new w4 (.cells #[.slice va2 (smallR l[k]).verbs.length vc2, .slice ga2 (smallR l[k]).groups.length gc2, .slice sa2 (smallR l[k]).resources.length sc2, .slice na2 (smallR l[k]).names.length nc2, .slice pa2 (smallR l[k]).paths.length pc2] 24)) (below_new _ (.cells #[.slice va2 (smallR l[k]).verbs.length vc2, .slice ga2 (smallR l[k]).groups.length gc2, .slice sa2 (smallR l[k]).resources.length sc2, .slice na2 (smallR l[k]).names.length nc2, .slice pa2 (smallR l[k]).paths.length pc2] 24)))) hg5 ((Hown4.out.alloc _).alloc _) (Nat.le_refl _); have hkeep : w5.heap[w4.heap.size]? = some (.cells #[.slice va2 (smallR l[k]).verbs.length vc2, .slice ga2 (smallR l[k]).groups.length gc2, .slice sa2 (smallR l[k]).resources.length sc2, .slice na2 (smallR l[k]).names.length nc2, .slice pa2 (smallR l[k]).paths.length pc2] 24) := (hg5.block _ (by simp only [World.size_alloc]; omega) (by intro e; have h9 := (Hown4.out.lt w4.heap.size (show (Value.slice oa k oc).ownBlock = some w4.heap.size from e.symm)).2; omega)).trans (blk_alloc (heap_alloc_new w4 (.cells #[.slice va2 (smallR l[k]).verbs.length vc2, .slice ga2 (smallR l[k]).groups.length gc2, .slice sa2 (smallR l[k]).resources.length sc2, .slice na2 (smallR l[k]).names.length nc2, .slice pa2 (smallR l[k]).paths.length pc2] 24)) (.cells #[.slice va2 (smallR l[k]).verbs.length vc2, .slice ga2 (smallR l[k]).groups.length gc2, .slice sa2 (smallR l[k]).resources.length sc2, .slice na2 (smallR l[k]).names.length nc2, .slice pa2 (smallR l[k]).paths.length pc2] 24))))
      have ga := G1.out _ b45
      have lkk := blk_lt hkeep
      have ljj := blk_lt ga
      have kk0 := cell_below lkk (blk_cell hkeep 0)
      have kk1 := cell_below lkk (blk_cell hkeep 1)
      have kk2 := cell_below lkk (blk_cell hkeep 2)
      have kk3 := cell_below lkk (blk_cell hkeep 3)
      have kk4 := cell_below lkk (blk_cell hkeep 4)
      have jj0 := cell_below ljj (blk_cell ga 0)
      have jj1 := cell_below ljj (blk_cell ga 1)
      have jj2 := cell_below ljj (blk_cell ga 2)
      have jj3 := cell_below ljj (blk_cell ga 3)
      have jj4 := cell_below ljj (blk_cell ga 4)
      have jj5 := cell_below ljj (blk_cell ga 5)
      have jj6 := cell_below ljj (blk_cell ga 6)
      have z18 : (smallR l[k]).resources.length ≤ 18 := by
        unfold smallR; rw [List.length_take]; omega
      have z19 : (smallR l[k]).paths.length ≤ 18 := by
        unfold smallR; rw [List.length_take]; omega
      have hw5 := chain b1 b45
      obtain ⟨t1, ht1⟩ : ∃ t1, allowsB (smallR l[k]) x = t1 := ⟨_, rfl⟩
      obtain ⟨t2, ht2⟩ : ∃ t2, resB (smallR l[k]).resources x.resource x.part = t2 := ⟨_, rfl⟩
      obtain ⟨t3, ht3⟩ : ∃ t3, (smallR l[k]).paths.any (pathAt x.path) = t3 := ⟨_, rfl⟩
      have C1 := Lib.hid (show ∀ W, Below w5.heap.size w5 W → Calls Tryd.prog 16 #[.agg #[.slice va2 (smallR l[k]).verbs.length vc2, .slice ga2 (smallR l[k]).groups.length gc2, .slice sa2 (smallR l[k]).resources.length sc2, .slice na2 (smallR l[k]).names.length nc2, .slice pa2 (smallR l[k]).paths.length pc2], .agg #[.string x.verb, .string x.group, .string x.resource, .string x.part, .string x.name, .string x.space, .string x.path]] W (fun e W' => e = .returned (.bool t1) ∧ Below W.heap.size W W') from fun W hW => by rw [← ht1]; exact Allows_any B hB (smallR l[k]) _ _ _ _ _ x W (hr2.later (chain hw5 hW)) hx)
      have C2 := Lib.hid (show ∀ W, Below w5.heap.size w5 W → Calls Tryd.prog 17 #[.agg #[.slice va2 (smallR l[k]).verbs.length vc2, .slice ga2 (smallR l[k]).groups.length gc2, .slice sa2 (smallR l[k]).resources.length sc2, .slice na2 (smallR l[k]).names.length nc2, .slice pa2 (smallR l[k]).paths.length pc2], .agg #[.string x.verb, .string x.group, .string x.resource, .string x.part, .string x.name, .string x.space, .string x.path]] W (fun e W' => e = .returned (.bool t1) ∧ Below W.heap.size W W') from fun W hW => by rw [← ht1]; exact rAllows_any B hB (smallR l[k]) _ _ _ _ _ x W (hr2.later (chain hw5 hW)) hx)
      have C3 := Lib.hid (show ∀ W, Below w5.heap.size w5 W → Calls Tryd.prog 18 #[.slice sa2 (smallR l[k]).resources.length sc2, .string x.resource, .string x.part] W (fun e W' => e = .returned (.bool t2) ∧ Below W.heap.size W W') from fun W hW => by rw [← ht2]; exact Resource_any B hB _ _ _ (by omega) _ _ x3 x4 W (hr2.2.2.1.inn.later (chain hw5 hW)))
      have C4 := Lib.hid (show ∀ W, Below w5.heap.size w5 W → Calls Tryd.prog 19 #[.slice sa2 (smallR l[k]).resources.length sc2, .string x.resource, .string x.part] W (fun e W' => e = .returned (.bool t2) ∧ Below W.heap.size W W') from fun W hW => by rw [← ht2]; exact (rResource_any B hB _ _ _ (by omega) _ _ x3 x4 W (hr2.2.2.1.inn.later (chain hw5 hW))).mono (fun _ _ h => ⟨h.1, h.2 ▸ Below.refl _ _⟩))
      have C5 := Lib.hid (show ∀ W, Below w5.heap.size w5 W → Calls Tryd.prog 20 #[.slice pa2 (smallR l[k]).paths.length pc2, .string x.path] W (fun e W' => e = .returned (.bool t3) ∧ Below W.heap.size W W') from fun W hW => by rw [← ht3]; exact Path_any B hB _ _ _ (by omega) _ W (hr2.2.2.2.2.inn.later (chain hw5 hW)))
      have C6 := Lib.hid (show ∀ W, Below w5.heap.size w5 W → Calls Tryd.prog 21 #[.slice pa2 (smallR l[k]).paths.length pc2, .string x.path] W (fun e W' => e = .returned (.bool t3) ∧ Below W.heap.size W W') from fun W hW => by rw [← ht3]; exact (rPath_any B hB _ _ _ (by omega) _ x7 W (hr2.2.2.2.2.inn.later (chain hw5 hW))).mono (fun _ _ h => ⟨h.1, h.2 ▸ Below.refl _ _⟩))
      have Hown5 := Lib.hid hown5
      clear ht1 ht2 ht3 hown5 hg5 hr2 ga hkeep hru
      refine wp_region_quiet_below (by assumption) (by kernel_rfl) ?_
      repeat (quiet_step (first
        | (go_at_call 16; exact calls_below (C1.out _ (below_of_grown _ _)))
        | (go_at_call 17; exact calls_below (C2.out _ (below_of_grown _ _)))
        | (go_at_call 18; exact calls_below (C3.out _ (below_of_grown _ _)))
        | (go_at_call 19; exact calls_below (C4.out _ (below_of_grown _ _)))
        | (go_at_call 20; exact calls_below (C5.out _ (below_of_grown _ _)))
        | (go_at_call 21; exact calls_below (C6.out _ (below_of_grown _ _)))))
      refine wpQuiet_nil ?_
      intro _ hw'
      obtain ⟨⟨nq, osq⟩, hw''⟩ := hw'
      subst hw''
      go_wp2_with fail
      go_roundw
      case rel => exact ⟨k + 1, css ++ [[.slice va2 (smallR l[k]).verbs.length vc2, .slice ga2 (smallR l[k]).groups.length gc2, .slice sa2 (smallR l[k]).resources.length sc2, .slice na2 (smallR l[k]).names.length nc2, .slice pa2 (smallR l[k]).paths.length pc2]], by omega, by omega, by go_num, Lib.hid (by rw [List.flatten_append]; exact own_stays Hown5.out (fun i _ hi => (below_of_grown nq osq).block i hi)), by rw [take_snoc hkb, List.map_append]; exact HL.out.append (Lists.one hAt.out), chain b45 (below_of_grown nq osq)⟩
      case measure => simp [intOf]; omega

    case neg =>
      by_cases hq : k < l.length
      case pos =>
        have hi4 : ¬ (k : Int) < 4 := by omega
        have hil : (k : Int) < (l.length : Int) := by omega
        clear hk
        have hML : ((l.take k).map smallR).length = k := by rw [List.length_map, List.length_take]; omega
        have hrow : RowIn (ruR B) wl oa ((l.take k).map smallR) := (RowAt.of_own (r := ruR B) (B := B) Hown.out hML.symm (HL.out.later hbw) (by omega)).inn
        have ga := G1.out _ hbr
        have ljj := blk_lt ga
        have jj0 := cell_below ljj (blk_cell ga 0)
        have jj1 := cell_below ljj (blk_cell ga 1)
        have jj2 := cell_below ljj (blk_cell ga 2)
        have jj3 := cell_below ljj (blk_cell ga 3)
        have jj4 := cell_below ljj (blk_cell ga 4)
        have jj5 := cell_below ljj (blk_cell ga 5)
        have jj6 := cell_below ljj (blk_cell ga 6)
        obtain ⟨t1, ht1⟩ : ∃ t1, ((l.take k).map smallR).any (allowsB · x) = t1 := ⟨_, rfl⟩
        have C1 := Lib.hid (show ∀ W, Below wl.heap.size wl W → Calls Tryd.prog 22 #[.slice oa k oc, .agg #[.string x.verb, .string x.group, .string x.resource, .string x.part, .string x.name, .string x.space, .string x.path]] W (fun e W' => e = .returned (.bool t1) ∧ Below W.heap.size W W') from fun W hW => by
          have := Any_any B hB oa oc ((l.take k).map smallR) (by omega) x hx W (hrow.later hW)
          rw [hML, ht1] at this; exact this)
        have C2 := Lib.hid (show ∀ W, Below wl.heap.size wl W → Calls Tryd.prog 23 #[.slice oa k oc, .agg #[.string x.verb, .string x.group, .string x.resource, .string x.part, .string x.name, .string x.space, .string x.path]] W (fun e W' => e = .returned (.bool t1) ∧ Below W.heap.size W W') from fun W hW => by
          have := rAny_any B hB oa oc ((l.take k).map smallR) (by omega) x hx W (hrow.later hW)
          rw [hML, ht1] at this; exact this)
        clear ht1 hrow ga
        go_wp2
        refine wp_region_quiet_below (by assumption) (by kernel_rfl) ?_
        repeat (quiet_step (first
          | (go_at_call 22; exact calls_below (C1.out _ (below_of_grown _ _)))
          | (go_at_call 23; exact calls_below (C2.out _ (below_of_grown _ _)))))
        refine wpQuiet_nil ?_
        intro _ hw'
        obtain ⟨⟨nq, osq⟩, hw''⟩ := hw'
        subst hw''
        go_wp2_with fail
        go_ret
        exact ⟨rfl, chain hbw (below_of_grown nq osq)⟩

      case neg =>
        have hil : ¬ (k : Int) < (l.length : Int) := by omega
        clear hk
        have hML : ((l.take k).map smallR).length = k := by rw [List.length_map, List.length_take]; omega
        have hrow : RowIn (ruR B) wl oa ((l.take k).map smallR) := (RowAt.of_own (r := ruR B) (B := B) Hown.out hML.symm (HL.out.later hbw) (by omega)).inn
        have ga := G1.out _ hbr
        have ljj := blk_lt ga
        have jj0 := cell_below ljj (blk_cell ga 0)
        have jj1 := cell_below ljj (blk_cell ga 1)
        have jj2 := cell_below ljj (blk_cell ga 2)
        have jj3 := cell_below ljj (blk_cell ga 3)
        have jj4 := cell_below ljj (blk_cell ga 4)
        have jj5 := cell_below ljj (blk_cell ga 5)
        have jj6 := cell_below ljj (blk_cell ga 6)
        obtain ⟨t1, ht1⟩ : ∃ t1, ((l.take k).map smallR).any (allowsB · x) = t1 := ⟨_, rfl⟩
        have C1 := Lib.hid (show ∀ W, Below wl.heap.size wl W → Calls Tryd.prog 22 #[.slice oa k oc, .agg #[.string x.verb, .string x.group, .string x.resource, .string x.part, .string x.name, .string x.space, .string x.path]] W (fun e W' => e = .returned (.bool t1) ∧ Below W.heap.size W W') from fun W hW => by
          have := Any_any B hB oa oc ((l.take k).map smallR) (by omega) x hx W (hrow.later hW)
          rw [hML, ht1] at this; exact this)
        have C2 := Lib.hid (show ∀ W, Below wl.heap.size wl W → Calls Tryd.prog 23 #[.slice oa k oc, .agg #[.string x.verb, .string x.group, .string x.resource, .string x.part, .string x.name, .string x.space, .string x.path]] W (fun e W' => e = .returned (.bool t1) ∧ Below W.heap.size W W') from fun W hW => by
          have := rAny_any B hB oa oc ((l.take k).map smallR) (by omega) x hx W (hrow.later hW)
          rw [hML, ht1] at this; exact this)
        clear ht1 hrow ga
        go_wp2
        refine wp_region_quiet_below (by assumption) (by kernel_rfl) ?_
        repeat (quiet_step (first
          | (go_at_call 22; exact calls_below (C1.out _ (below_of_grown _ _)))
          | (go_at_call 23; exact calls_below (C2.out _ (below_of_grown _ _)))))
        refine wpQuiet_nil ?_
        intro _ hw'
        obtain ⟨⟨nq, osq⟩, hw''⟩ := hw'
        subst hw''
        go_wp2_with fail
        go_ret
        exact ⟨rfl, chain hbw (below_of_grown nq osq)⟩

end Go.Proofs.YthflpgeonllgdaaDoor.rul
