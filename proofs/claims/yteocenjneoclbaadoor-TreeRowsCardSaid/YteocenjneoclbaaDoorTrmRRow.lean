/- Layer 4: the document's row. -/
import Derived.BigRegion
import Derived.Deep.AppendLies
import Derived.Deep.RegionLaw
import Derived.Test.YteocenjneoclbaaDoorTrmShaped
namespace Go.Proofs.YteocenjneoclbaaDoor.tre
open Go.RowKit Go.Shelf

theorem flatI_append (l m : List It) : flatI (l ++ m) = flatI l ++ flatI m := by simp [flatI]
theorem one_flat (l : List It) : ∀ u ∈ flatI l, u.oneCell' = true := fun u hu => by
  unfold flatI at hu
  obtain ⟨xs, hxs, hux⟩ := List.mem_flatten.1 hu
  obtain ⟨x, _, rfl⟩ := List.mem_map.1 hxs
  simp only [cellsI, List.mem_cons, List.not_mem_nil, or_false] at hux
  rcases hux with rfl | rfl | rfl | rfl | rfl <;> rfl
theorem sum_sumN : ∀ l : List Nat, l.sum = sumN l
  | [] => rfl
  | x :: l => by rw [List.sum_cons, sum_sumN l]; rfl
/-- What the document's row tells of a value, wherever it lies. -/
def RRowAt (v : V) : Prop := ∀ (d : Int) (key : ByteArray) (S : Nat → Prop) (W : World) (r t : Sl), countV v ≤ 100000 → 0 ≤ d → d + depthV v < 4611686018427387904 → (∀ g, S g → g < W.heap.size) → HV S W v r t →
  Calls Tryd.prog 37 #[.agg #[.int .i64 v.kind, .int .i64 v.int, .string v.text, .slice r.a r.n r.c, .slice t.a t.n t.c], .int .i64 d, .string key] W fun e w' => ∃ sl : Sl, e = .returned (.slice sl.a sl.n sl.c) ∧
    w'.ownsRow W.heap.size 55 5 (.slice sl.a sl.n sl.c) (rowV v d key).length (flatI (rowV v d key)) ∧ Below W.heap.size W w'
set_option maxRecDepth 100000 in
set_option maxHeartbeats 8000000 in
theorem rrow_any : ∀ v, RRowAt v := V.ind fun v ihl ihf => by
  intro d key S W r t hc hd0 hd1 hS hh
  obtain ⟨ra, rn, rc⟩ := r
  obtain ⟨ta, tn, tc⟩ := t
  have hrn : rn = v.list.length := hh.1.len
  have htn : tn = v.fields.length := hh.2.len
  subst hrn htn
  have hm1 := hh.1.max
  have hm2 := hh.2.max
  have hdp := depthV_eq v
  have hcp := countV_eq v
  have hdw : IntKind.i64.wrap (d + 1) = d + 1 := IntWalk.i64_in _ (by omega)
  obtain ⟨i0, hi0, hz0, hz1, hz2⟩ := info_of info_item
  have Hb := Lib.hid (And.intro hS (And.intro hh (And.intro ihl (And.intro ihf (And.intro hc (And.intro hd1 (And.intro hdp (And.intro hcp hd0))))))))
  clear hS hh ihl ihf hc hd1 hdp hcp hd0
  go_enter Tryd.func37, Tryd.ntmps37
  go_wp2_with fail
  go_loopg [7, 8] v.list.length (fun gg s7 s8 wr => ∃ (i : Nat) (sl : Sl), i ≤ v.list.length ∧ v.list.length - i ≤ gg ∧ s7 = .slice sl.a sl.n sl.c ∧ s8 = .int .i64 i ∧
    Hid (wr.heap[W.heap.size]? = some (.cells #[.int .i64 v.kind, .int .i64 v.int, .string v.text, .slice ra v.list.length rc, .slice ta v.fields.length tc] 27 (0, 0)) ∧ wr.ownsRow (W.heap.size + 1) 55 5 (.slice sl.a sl.n sl.c) (itOf v key d :: (v.list.take i).flatMap (fun x => rowV x (d + 1) ⟨#[]⟩)).length (flatI (itOf v key d :: (v.list.take i).flatMap (fun x => rowV x (d + 1) ⟨#[]⟩))) ∧ Below W.heap.size W wr))
  case atStart =>
    have h2 := block_new2 W (.cells #[.int .i64 v.kind, .int .i64 v.int, .string v.text, .slice ra v.list.length rc, .slice ta v.fields.length tc] 27) (.cells #[.int .i64 d, .int .i64 v.kind, .int .i64 v.int, .string key, .string v.text] 55)
    exact ⟨0, ⟨some ⟨W.heap.size + 1, 0, none⟩, 1, 1⟩, Nat.zero_le _, by omega, rfl, rfl, h2.1, ⟨rfl, .inr ⟨W.heap.size + 1, 1, _, rfl, Nat.le_refl _, h2.2, Nat.le_refl _, by unfold maxLen; omega, rfl, rfl⟩⟩, ((Below.refl _ _).alloc (Nat.le_refl _) _).alloc (by rw [size_alloc]; omega) _⟩
  case round =>
    obtain ⟨i, ⟨sa, sn, sc⟩, hil, hgg, rfl, rfl, H⟩ := hrel
    simp only at H
    have l0 := (Array.getElem?_eq_some_iff.1 H.out.1).1
    have k0 : wr.cell? ⟨W.heap.size, 0, none⟩ = some (.int .i64 v.kind) := by rw [blk_cell H.out.1]; rfl
    have k1 : wr.cell? ⟨W.heap.size, 1, none⟩ = some (.int .i64 v.int) := by rw [blk_cell H.out.1]; rfl
    have k2 : wr.cell? ⟨W.heap.size, 2, none⟩ = some (.string v.text) := by rw [blk_cell H.out.1]; rfl
    have k3 : wr.cell? ⟨W.heap.size, 3, none⟩ = some (.slice ra v.list.length rc) := by rw [blk_cell H.out.1]; rfl
    have k4 : wr.cell? ⟨W.heap.size, 4, none⟩ = some (.slice ta v.fields.length tc) := by rw [blk_cell H.out.1]; rfl
    by_cases hlt : i < v.list.length
    · have hltz : (i : Int) < (v.list.length : Int) := by omega
      have hBW := H.out.2.2
      obtain ⟨g1, r', t', hra, hg1, _, hc, hhx⟩ := (Hb.out.2.1.later hBW).1.at hlt
      simp only at hra
      subst hra
      have hin := List.getElem_mem hlt
      have hLL : (itOf v key d :: (v.list.take i).flatMap (fun x => rowV x (d + 1) ⟨#[]⟩)) ++ rowV v.list[i] (d + 1) ⟨#[]⟩ = (itOf v key d :: (v.list.take (i + 1)).flatMap (fun x => rowV x (d + 1) ⟨#[]⟩)) := by
        rw [List.take_succ_eq_append_getElem hlt, List.flatMap_append]; simp
      have hcn := sum_ge countV v.list v.list[i] hin
      have hdn := depth_list hin
      have hln := sum_take countV v.list i v.list[i] (List.getElem?_eq_getElem hlt)
      have hlen : (itOf v key d :: (v.list.take i).flatMap (fun x => rowV x (d + 1) ⟨#[]⟩)).length = 1 + sumN ((v.list.take i).map countV) := by
        rw [List.length_cons, List.length_flatMap, show (fun x => (rowV x (d + 1) ⟨#[]⟩).length) = countV from funext fun x => rowV_len x _ _, sum_sumN]; omega
      generalize v.list[i] = x at hc hhx hin hLL hcn hdn hln
      have x0 := hc 0 _ rfl
      have x1 := hc 1 _ rfl
      have x2 := hc 2 _ rfl
      have x3 := hc 3 _ rfl
      have x4 := hc 4 _ rfl
      simp only [Nat.add_zero] at x0
      have hcall := Hb.out.2.2.1 x hin (d + 1) ⟨#[]⟩ S wr r' t' (by have := Hb.out; omega) (by have := Hb.out; omega) (by have := Hb.out; omega) (fun g hg => Nat.lt_of_lt_of_le (Hb.out.1 g hg) hBW.size) hhx
      have HL := Lib.hid hLL
      have hrl := rowV_len x (d + 1) ⟨#[]⟩
      obtain ⟨N, hN⟩ : ∃ N, (itOf v key d :: (v.list.take i).flatMap (fun x => rowV x (d + 1) ⟨#[]⟩)).length = N := ⟨_, rfl⟩
      obtain ⟨M, hM⟩ : ∃ M, (rowV x (d + 1) ⟨#[]⟩).length = M := ⟨_, rfl⟩
      have H5 := Lib.hid (show N + M ≤ 100000 ∧ 0 < M from by have := Hb.out; have := countV_eq x; omega)
      have hown0 := H.out.2.1
      rw [hN] at hown0
      rw [hM] at hcall
      have HN := Lib.hid hN
      have HM := Lib.hid hM
      clear hc hhx hin hBW hLL hcn hdn hln hlen hrl hN hM
      go_wp2_with fail
      refine hcall.mono ?_
      rintro e w4 ⟨⟨a4, n4, c4⟩, rfl, hown4, hb4⟩
      simp only at hown4
      obtain ⟨g4, cap4, hv4, -, -⟩ := hown4.form (by have := H5.out; omega)
      injection hv4 with hv41 hv42 hv43
      subst hv41 hv42 hv43
      have hs4 := hb4.size
      have H4 := Lib.hid (And.intro hown4 hb4)
      have hownA := own_stay (w' := w4) hown0 (fun g _ hg _ => hb4.block g (Array.getElem?_eq_some_iff.1 hg).1)
      clear hown4 hb4 hcall hown0
      go_wp2_with (at_builtin; refine wpList_append_own_at _ rfl (.tmp 27) (.tmp 35) 22 rfl (W.heap.size + 1) 55 i0 _ 5 56 Tryd.underlying22 hi0 hz0 hz1 hz2 rfl (by decide) (.slice sa sn sc) N (flatI (itOf v key d :: (v.list.take i).flatMap (fun x => rowV x (d + 1) ⟨#[]⟩))) (by rfl) hownA ⟨g4, 0, none⟩ n4 c4 (flatI (rowV x (d + 1) ⟨#[]⟩)) (by rfl) (by rw [flatI_len, HM.out]) (fun i u hu => H4.out.1.cells (g := g4) rfl i u hu) (one_flat _) (by unfold maxLen; have := H5.out; omega) (by have := H5.out; omega) (by have := H4.out.2.size; omega) ?_; intro v' w6 hown6 hgrow6 _ hat6; obtain ⟨g', cap', rfl, _, _⟩ := hown6.form (by have := H5.out; omega); have H6 := Lib.hid (And.intro hown6 hgrow6); clear hown6 hgrow6 hat6)
      go_roundg (v.list.length - (i + 1))
      case measure => omega
      case rel =>
        have hl4 := H4.out.2.size
        have hb6 : Below W.heap.size w4 w6 := (Below.refl W.heap.size w4).grown H6.out.2 (by omega) (fun e he => by have := (H.out.2.1.lt e he).1; omega)
        have hLn : (itOf v key d :: (v.list.take i).flatMap (fun x => rowV x (d + 1) ⟨#[]⟩)) ++ (rowV x (d + 1) ⟨#[]⟩) = (itOf v key d :: (v.list.take (i + 1)).flatMap (fun x => rowV x (d + 1) ⟨#[]⟩)) := HL.out
        refine ⟨i + 1, ⟨some ⟨g', 0, none⟩, N + n4, cap'⟩, by omega, by omega, rfl, by go_num, ((H6.out.2.block W.heap.size (by omega) (fun e => by have := (H.out.2.1.lt _ e.symm).1; omega)).trans (H4.out.2.block _ l0)).trans H.out.1, ?_, (H.out.2.2.trans (H4.out.2.mono (by omega))).trans hb6⟩
        rw [← hLn, List.length_append, flatI_append, HN.out, HM.out]
        exact H6.out.1
    · obtain rfl : i = v.list.length := by omega
      have hst : (itOf v key d :: (v.list.take v.list.length).flatMap (fun x => rowV x (d + 1) ⟨#[]⟩)) = (itOf v key d :: (v.list.flatMap (fun x => rowV x (d + 1) ⟨#[]⟩) ++ (v.fields.take 0).flatMap (fun g => rowV g.2 (d + 1) g.1))) := by
        rw [List.take_length, List.take_zero, List.flatMap_nil, List.append_nil]
      have hown1 := H.out.2.1
      rw [hst] at hown1
      have H0 := Lib.hid (And.intro H.out.1 (And.intro hown1 H.out.2.2))
      have hltz : ¬ (v.list.length : Int) < (v.list.length : Int) := by omega
      clear hst hown1 H
      obtain ⟨wo, rfl⟩ : ∃ w', w' = wr := ⟨wr, rfl⟩
      go_wp2_with fail
      go_loopg [7, 9] v.fields.length (fun gg s7 s9 wr => ∃ (j : Nat) (sl : Sl), j ≤ v.fields.length ∧ v.fields.length - j ≤ gg ∧ s7 = .slice sl.a sl.n sl.c ∧ s9 = .int .i64 j ∧
        Hid (wr.heap[W.heap.size]? = some (.cells #[.int .i64 v.kind, .int .i64 v.int, .string v.text, .slice ra v.list.length rc, .slice ta v.fields.length tc] 27 (0, 0)) ∧ wr.ownsRow (W.heap.size + 1) 55 5 (.slice sl.a sl.n sl.c) (itOf v key d :: (v.list.flatMap (fun x => rowV x (d + 1) ⟨#[]⟩) ++ (v.fields.take j).flatMap (fun g => rowV g.2 (d + 1) g.1))).length (flatI (itOf v key d :: (v.list.flatMap (fun x => rowV x (d + 1) ⟨#[]⟩) ++ (v.fields.take j).flatMap (fun g => rowV g.2 (d + 1) g.1)))) ∧ Below W.heap.size W wr))
      case atStart => exact ⟨0, ⟨sa, sn, sc⟩, Nat.zero_le _, by omega, rfl, rfl, H0.out⟩
      case round =>
        clear k0 k1 k2 k3 k4 l0 H0
        obtain ⟨j, ⟨sa, sn, sc⟩, hjl, hjg, rfl, rfl, H⟩ := hrel
        simp only at H
        have l0 := (Array.getElem?_eq_some_iff.1 H.out.1).1
        have k0 : wr.cell? ⟨W.heap.size, 0, none⟩ = some (.int .i64 v.kind) := by rw [blk_cell H.out.1]; rfl
        have k1 : wr.cell? ⟨W.heap.size, 1, none⟩ = some (.int .i64 v.int) := by rw [blk_cell H.out.1]; rfl
        have k2 : wr.cell? ⟨W.heap.size, 2, none⟩ = some (.string v.text) := by rw [blk_cell H.out.1]; rfl
        have k3 : wr.cell? ⟨W.heap.size, 3, none⟩ = some (.slice ra v.list.length rc) := by rw [blk_cell H.out.1]; rfl
        have k4 : wr.cell? ⟨W.heap.size, 4, none⟩ = some (.slice ta v.fields.length tc) := by rw [blk_cell H.out.1]; rfl
        by_cases hlt : j < v.fields.length
        · have hltz : (j : Int) < (v.fields.length : Int) := by omega
          have hBW := H.out.2.2
          obtain ⟨g1, r', t', hra, hg1, _, hc, hhx⟩ := (Hb.out.2.1.later hBW).2.at hlt
          simp only at hra
          subst hra
          have hin := List.getElem_mem hlt
          have hLL : (itOf v key d :: (v.list.flatMap (fun x => rowV x (d + 1) ⟨#[]⟩) ++ (v.fields.take j).flatMap (fun g => rowV g.2 (d + 1) g.1))) ++ rowV v.fields[j].2 (d + 1) v.fields[j].1 = (itOf v key d :: (v.list.flatMap (fun x => rowV x (d + 1) ⟨#[]⟩) ++ (v.fields.take (j + 1)).flatMap (fun g => rowV g.2 (d + 1) g.1))) := by
            rw [List.take_succ_eq_append_getElem hlt, List.flatMap_append]; simp
          have hcn := sum_ge (fun g : ByteArray × V => countV g.2) v.fields v.fields[j] hin
          have hdn := depth_fields hin
          have hln := sum_take (fun g : ByteArray × V => countV g.2) v.fields j v.fields[j] (List.getElem?_eq_getElem hlt)
          have hlen : (itOf v key d :: (v.list.flatMap (fun x => rowV x (d + 1) ⟨#[]⟩) ++ (v.fields.take j).flatMap (fun g => rowV g.2 (d + 1) g.1))).length = 1 + sumN (v.list.map countV) + sumN ((v.fields.take j).map fun g => countV g.2) := by
            rw [List.length_cons, List.length_append, List.length_flatMap, List.length_flatMap, show (fun x => (rowV x (d + 1) ⟨#[]⟩).length) = countV from funext fun x => rowV_len x _ _, show (fun g : ByteArray × V => (rowV g.2 (d + 1) g.1).length) = (fun g => countV g.2) from funext fun x => rowV_len x.2 _ _, sum_sumN, sum_sumN]; omega
          generalize v.fields[j] = x at hc hhx hin hLL hcn hdn hln
          have x0 := hc 0 _ rfl
          have x1 := hc 1 _ rfl
          have x2 := hc 2 _ rfl
          have x3 := hc 3 _ rfl
          have x4 := hc 4 _ rfl
          have x5 := hc 5 _ rfl
          simp only [Nat.add_zero] at x0
          have hcall := fun W1 (hb : Below wr.heap.size wr W1) => Hb.out.2.2.2.1 x hin (d + 1) x.1 S W1 r' t' (by have := Hb.out; omega) (by have := Hb.out; omega) (by have := Hb.out; omega) (fun g hg => Nat.lt_of_lt_of_le (Hb.out.1 g hg) (hBW.trans (hb.mono hBW.size)).size) (hhx.later hb)
          have HL := Lib.hid hLL
          have hrl := rowV_len x.2 (d + 1) x.1
          obtain ⟨N, hN⟩ : ∃ N, (itOf v key d :: (v.list.flatMap (fun x => rowV x (d + 1) ⟨#[]⟩) ++ (v.fields.take j).flatMap (fun g => rowV g.2 (d + 1) g.1))).length = N := ⟨_, rfl⟩
          obtain ⟨M, hM⟩ : ∃ M, (rowV x.2 (d + 1) x.1).length = M := ⟨_, rfl⟩
          have H5 := Lib.hid (show N + M ≤ 100000 ∧ 0 < M from by have := Hb.out; have := countV_eq x.2; omega)
          have hown0 := H.out.2.1
          rw [hN] at hown0
          rw [hM] at hcall
          have HN := Lib.hid hN
          have HM := Lib.hid hM
          have HO := Lib.hid hown0
          clear hc hhx hin hBW hLL hcn hdn hln hlen hrl hN hM hown0
          go_wp2_with fail
          go_region_law (first
            | (refine step_append_lies _ (by rfl) (.tmp 44) (.tmp 59) 22 (by rfl) (W.heap.size + 1) 55 i0 _ 5 56 Tryd.underlying22 hi0 hz0 hz1 hz2 rfl (by decide) (.slice sa sn sc) N (flatI (itOf v key d :: (v.list.flatMap (fun x => rowV x (d + 1) ⟨#[]⟩) ++ (v.fields.take j).flatMap (fun g => rowV g.2 (d + 1) g.1)))) (by rfl) hownA ⟨g4, 0, none⟩ n4 c4 (flatI (rowV x.2 (d + 1) x.1)) (by rfl) (by rw [flatI_len, HM.out]) (fun i u hu => H4.out.1.cells (g := g4) rfl i u hu) (one_flat _) (by have := H5.out; omega) (by unfold maxLen; have := H5.out; omega) (by have := H5.out; omega) (by have := H4.out.2.size; omega) w4.heap.size (by omega) ?_; intro g' cap' w6 hown6 hgrow6 hat6 hlt6; have H6 := Lib.hid (And.intro hown6 hgrow6); clear hown6 hgrow6 hat6)
            | (go_simp; go_wp2_with (go_at_call 37; refine (hcall _ ((Below.refl _ _).drew)).mono ?_; rintro e w4 ⟨⟨a4, n4, c4⟩, rfl, hown4, hb4d⟩; have hb4 : Below wr.heap.size wr w4 := (Below.refl wr.heap.size wr).drew.trans hb4d; simp only at hown4; obtain ⟨g4, cap4, hv4, -, -⟩ := hown4.form (by have := H5.out; omega); injection hv4 with hv41 hv42 hv43; subst hv41 hv42 hv43; have hs4 := hb4.size; have H4 := Lib.hid (And.intro hown4 hb4); have hownA := own_stay (w' := w4) HO.out (fun g _ hg _ => hb4.block g (Array.getElem?_eq_some_iff.1 hg).1); clear hown4 hb4 hb4d)))
          all_goals
            go_wp2_with fail
            go_roundg (v.fields.length - (j + 1))
            case measure => omega
            case rel =>
              have hl4 := H4.out.2.size
              have hb6 : Below W.heap.size w4 w6 := (Below.refl W.heap.size w4).grown H6.out.2 (by omega) (fun e he => by have := (H.out.2.1.lt e he).1; omega)
              have hLn : (itOf v key d :: (v.list.flatMap (fun x => rowV x (d + 1) ⟨#[]⟩) ++ (v.fields.take j).flatMap (fun g => rowV g.2 (d + 1) g.1))) ++ (rowV x.2 (d + 1) x.1) = (itOf v key d :: (v.list.flatMap (fun x => rowV x (d + 1) ⟨#[]⟩) ++ (v.fields.take (j + 1)).flatMap (fun g => rowV g.2 (d + 1) g.1))) := HL.out
              refine ⟨j + 1, ⟨some ⟨g', 0, none⟩, N + n4, cap'⟩, by omega, by omega, rfl, by go_num, ((H6.out.2.block W.heap.size (by omega) (fun e => by have := (H.out.2.1.lt _ e.symm).1; omega)).trans (H4.out.2.block _ l0)).trans H.out.1, ?_, (H.out.2.2.trans (H4.out.2.mono (by omega))).trans hb6⟩
              rw [← hLn, List.length_append, flatI_append, HN.out, HM.out]
              exact H6.out.1
        · obtain rfl : j = v.fields.length := by omega
          have hltz : ¬ (v.fields.length : Int) < (v.fields.length : Int) := by omega
          have hfin : (itOf v key d :: (v.list.flatMap (fun x => rowV x (d + 1) ⟨#[]⟩) ++ (v.fields.take v.fields.length).flatMap (fun g => rowV g.2 (d + 1) g.1))) = rowV v d key := by rw [List.take_length, rowV_eq]
          have hown1 := H.out.2.1
          rw [hfin] at hown1
          have H0 := Lib.hid (And.intro hown1 H.out.2.2)
          clear hfin hown1
          go_wp2_with fail
          go_ret
          exact ⟨⟨sa, sn, sc⟩, rfl, own_mono H0.out.1 (Nat.le_succ _), H0.out.2⟩
end Go.Proofs.YteocenjneoclbaaDoor.tre
