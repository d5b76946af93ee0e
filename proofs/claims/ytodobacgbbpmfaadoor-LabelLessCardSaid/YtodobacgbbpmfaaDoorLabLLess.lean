/- Layer 7: the law LabelLess. -/
import Derived.Test.YtodobacgbbpmfaaDoorLabLTells
namespace Go.Proofs.YtodobacgbbpmfaaDoor.lab
open Go.RowKit Go.Proofs.YtodobacgbbpmfaaDoor.rep

theorem one_flat_Wt {B : Nat} {W : World} {css : List (List Value)} {l : List Wt} (hL : Lists (wtR B) W css l) : ∀ u ∈ css.flatten, u.oneCell' = true := lists_one hL (one_Wt B)
set_option maxRecDepth 100000 in
set_option maxHeartbeats 8000000 in
theorem lawLess (B : Nat) (hB : B ≤ 140737488355328) (hB2 : 100 ≤ B) (s : Sel) (u t : Value) (ul : Value) (l : List Pr) (p : Pr) (q : Wt) (uq : Value) (w : World) (hu : RowAt B (prR B) w u s.labels) (ht : RowAt B (wtR B) w t s.wants) (hr : RowAt B (prR B) w ul l) (hp1 : p.key.size ≤ B) (hp2 : p.value.size ≤ B) (hq1 : q.key.size ≤ B) (hq2 : q.how.size ≤ B) (hq : RowAt B (text B) w uq q.vals) (hm : nam.MaxL w) :
    Calls Tryd.prog 4 #[.agg #[u, t], ul, .agg #[.string p.key, .string p.value, .string q.key, .string q.how, uq]] w fun e w' => e = .returned (.bool true) ∧ Below w.heap.size w w' := by
  obtain ⟨i0, hi0, hz0, hz1, hz2⟩ := info_parts info_Pr
  obtain ⟨j0, hj0, hy0, hy1, hy2⟩ := info_parts info_Wt
  obtain ⟨a, c, rfl, hlc, hcm, hlB, hri⟩ := hr
  obtain ⟨m, hme⟩ : ∃ m, m = (l.take 8).length := ⟨_, rfl⟩
  have hm8 : m ≤ 8 := by rw [hme, List.length_take]; omega
  have hml : m ≤ l.length := by rw [hme, List.length_take]; omega
  have cf := fun w => few_any a c l hlc hcm m hme w
  have hr8 : RowIn (prR B) w a (l.take 8) := hri.take 8
  generalize l.take 8 = l8 at *
  subst hme
  clear hri
  have cs := fun W hW => small_any B (by omega) s u t w W hW hu ht
  have hS8 := small_len s
  unfold SmallTo at cs
  generalize smallS s = S at *
  have hP : (prR B).at_ w [.string p.key, .string p.value] p := ⟨rfl, hp1, hp2⟩
  have hQ : (wtR B).at_ w [.string q.key, .string q.how, uq] q := ⟨_, rfl, hq1, hq2, hq⟩
  have uqs : uq.oneCell' = true := by obtain ⟨_, _, h, _⟩ := hq; rw [h]; rfl
  have hbx := chain (below_new w (.cells #[u, t] 25)) (below_new (w.alloc (.cells #[u, t] 25)) (.cells #[.string p.key, .string p.value, .string q.key, .string q.how, uq] 45))
  have x3 : ((w.alloc (.cells #[u, t] 25)).alloc (.cells #[.string p.key, .string p.value, .string q.key, .string q.how, uq] 45)).heap[w.heap.size]? = some (.cells #[u, t] 25 (0, 0)) := blk_alloc (heap_alloc_new _ _) _
  have x5 : ((w.alloc (.cells #[u, t] 25)).alloc (.cells #[.string p.key, .string p.value, .string q.key, .string q.how, uq] 45)).heap[w.heap.size + 1]? = some (.cells #[.string p.key, .string p.value, .string q.key, .string q.how, uq] 45 (0, 0)) := by
    have := heap_alloc_new (w.alloc (.cells #[u, t] 25)) (.cells #[.string p.key, .string p.value, .string q.key, .string q.how, uq] 45)
    rwa [World.size_alloc] at this
  go_enter Tryd.func4, Tryd.ntmps4
  go_wp2_with fail
  refine (awake_any _ (hm.later hbx)).mono ?_
  rintro e w1 ⟨rfl, hb1⟩
  have b1 := chain hbx hb1
  have x3a := blk_later x3 hb1
  have x5a := blk_later x5 hb1
  have k0 : w1.cell? ⟨w.heap.size, 0, none⟩ = some u := blk_cell x3a 0
  have k1 : w1.cell? ⟨w.heap.size, 1, none⟩ = some t := blk_cell x3a 1
  clear x3 x5 hbx
  go_wp2_with fail
  refine (cs _ b1).mono ?_
  rintro e w2 ⟨sa, sm, sc, st, css, rfl, rfl, hsmc, hsc, hsr, hL, hown, hb2⟩
  obtain ⟨oa, oc, rfl⟩ := own_form hown
  have b2 := chain b1 hb2
  have x3b := blk_later x3a hb2
  have x5b := blk_later x5a hb2
  have f0 := blk_frozen x3b 0
  have f1 := blk_frozen x3b 1
  have j0' : w2.cell? ⟨w.heap.size, 0, none⟩ = some u := blk_cell x3b 0
  have j1' : w2.cell? ⟨w.heap.size, 1, none⟩ = some t := blk_cell x3b 1
  have lw1 := blk_lt x5a
  obtain ⟨wx, hwx⟩ : ∃ wx, wx = (w2.setCell ⟨w.heap.size, 0, none⟩ (.slice sa S.labels.length sc)).setCell ⟨w.heap.size, 1, none⟩ (.slice oa S.wants.length oc) := ⟨_, rfl⟩
  have bx : Below w.heap.size w wx := by rw [hwx]; exact (b2.setCell (Nat.le_refl _) _).setCell (Nat.le_refl _) _
  have X3 : wx.heap[w.heap.size]? = some (.cells #[.slice sa S.labels.length sc, .slice oa S.wants.length oc] 25 (0, 0)) := by
    rw [hwx]; exact blk_set (blk_set x3b 0 _) 1 _
  have X5 : wx.heap[w.heap.size + 1]? = some (.cells #[.string p.key, .string p.value, .string q.key, .string q.how, uq] 45 (0, 0)) := by
    rw [hwx]; exact blk_set_far (blk_set_far x5b (by omega) _ _) (by omega) _ _
  have OS : wx.ownsRow w1.heap.size 37 3 (.slice oa S.wants.length oc) S.wants.length css.flatten := by
    rw [hwx]
    exact own_stays hown fun i hi _ => by rw [blk_far _ (by show i ≠ w.heap.size; omega), blk_far _ (by show i ≠ w.heap.size; omega)]
  have Hwx := Lib.hid hwx
  have z0 : wx.cell? ⟨w.heap.size, 0, none⟩ = some (.slice sa S.labels.length sc) := blk_cell X3 0
  have z1 : wx.cell? ⟨w.heap.size, 1, none⟩ = some (.slice oa S.wants.length oc) := blk_cell X3 1
  have lx : w.heap.size + 1 < wx.heap.size := blk_lt X5
  have lx0 : w.heap.size < wx.heap.size := blk_lt X3
  clear hwx hown x3a x3b x5a x5b b2 hb2 cs
  go_wp2_with fail
  rw [← Hwx.out]
  refine (cf _).mono ?_
  rintro e w3 ⟨rfl, rfl⟩
  clear k0 k1 f0 f1 j0' j1' Hwx b1 hb1 lw1
  have Y8 : (wx.alloc (.cells #[.slice sa S.labels.length sc, .slice oa S.wants.length oc] 25)).heap[wx.heap.size]? = some (.cells #[.slice sa S.labels.length sc, .slice oa S.wants.length oc] 25 (0, 0)) := heap_alloc_new _ _
  have Y3 := blk_alloc X3 (.cells #[.slice sa S.labels.length sc, .slice oa S.wants.length oc] 25)
  have Y5 := blk_alloc X5 (.cells #[.slice sa S.labels.length sc, .slice oa S.wants.length oc] 25)
  have YS := OS.alloc (.cells #[.slice sa S.labels.length sc, .slice oa S.wants.length oc] 25)
  have yy : Below w.heap.size w (wx.alloc (.cells #[.slice sa S.labels.length sc, .slice oa S.wants.length oc] 25)) := chain bx (below_new _ _)
  clear X3 X5 OS
  have M1 : ((wx.alloc (.cells #[.slice sa S.labels.length sc, .slice oa S.wants.length oc] 25)).alloc (.cells #[] 43)).ownsRow (wx.heap.size + 1) 43 2 (.slice (some ⟨wx.heap.size + 1, 0, none⟩) 0 0) 0 [] := by
    have := World.ownsRow_made (w := wx.alloc (.cells #[.slice sa S.labels.length sc, .slice oa S.wants.length oc] 25)) (base := (wx.alloc (.cells #[.slice sa S.labels.length sc, .slice oa S.wants.length oc] 25)).heap.size) (e := 43) (size := 2) #[] 0 (Nat.le_refl _) (by decide) rfl
    rwa [World.size_alloc] at this
  go_wp2_with (first
    | (at_builtin; refine wpList_append_row (o := ⟨some 23, _, _, _, _, _⟩) (r := prR B) (w0 := w) (base := wx.heap.size + 1) (v := .slice (some ⟨wx.heap.size + 1, 0, none⟩) 0 0) (n := 0) (xs := []) (A := sa) (m := S.labels.length) (c := sc) rfl _ _ 22 rfl Tryd.underlying22 hi0 hz0 hz1 hz2 rfl (Nat.zero_lt_succ 1) rfl M1 rfl rfl hsr (chain yy (below_new _ _)) (one_Pr B) (by unfold maxLen; omega) (by omega) (by simp) ?_; intro dss v7 w7 hLP hown7 hg7 _; have K7 := Kept.fresh hg7 (by simp); have E3 := K7.blk_fresh Y3; have E5 := K7.blk_fresh Y5; have E8 := K7.blk_fresh Y8; have ES := K7.own_fresh YS; have EA : w7.ownsRow (wx.heap.size + 1) 43 2 v7 S.labels.length dss.flatten := (by simpa [prR] using hown7); have bw7 : Below w.heap.size w w7 := below_own (chain yy (below_new _ _)) hg7 M1 (by omega); obtain ⟨va, vca, rfl⟩ := own_form EA; have F3 := blk_set_far E3 (show w.heap.size ≠ wx.heap.size by omega) 0 (.slice va S.labels.length vca); have F5 := blk_set_far E5 (show w.heap.size + 1 ≠ wx.heap.size by omega) 0 (.slice va S.labels.length vca); have F8 := blk_set E8 0 (.slice va S.labels.length vca); have FS := own_set ES E8 (by decide) 0 (.slice va S.labels.length vca); have FA := own_set EA E8 (by decide) 0 (.slice va S.labels.length vca); have bS7 := bw7.setCell (p := ⟨wx.heap.size, 0, none⟩) (show w.heap.size ≤ wx.heap.size by omega) (.slice va S.labels.length vca); have g80 : w7.cell? ⟨wx.heap.size, 0, none⟩ = some (.slice sa S.labels.length sc) := blk_cell E8 0; have g8f := blk_frozen E8 0; have g50 : w7.cell? ⟨w.heap.size + 1, 0, none⟩ = some (.string p.key) := blk_cell E5 0; have g51 : w7.cell? ⟨w.heap.size + 1, 1, none⟩ = some (.string p.value) := blk_cell E5 1; have l78 : wx.heap.size < w7.heap.size := blk_lt E8; clear hown7 hg7 M1 Y3 Y5 Y8 YS E3 E5 E8 ES EA K7 yy bw7 z0 z1)
    | (at_builtin; refine wpList_append_own_at (o := ⟨some 30, _, _, _, _, _⟩) _ rfl _ _ 22 rfl (wx.heap.size + 1) 43 i0 _ 2 32 Tryd.underlying22 hi0 hz0 hz1 hz2 rfl (by decide) (.slice va S.labels.length vca) S.labels.length dss.flatten rfl (FA.alloc _) ⟨w7.heap.size, 0, none⟩ 1 1 [.string p.key, .string p.value] rfl rfl (cells_new (by simp) _ _) (by intro u hu; simp only [List.mem_cons, List.not_mem_nil, or_false] at hu; rcases hu with rfl | rfl <;> rfl) (by unfold maxLen; omega) (by omega) (by simp; omega) ?_; intro v9 w9 hown9 hg9 _ _; have K9 := Kept.grown hg9; have E3 := K9.blk (blk_alloc F3 (.cells #[.string p.key, .string p.value] 43)) (own_ne (FA.alloc (.cells #[.string p.key, .string p.value] 43)) (blk_alloc F3 (.cells #[.string p.key, .string p.value] 43)) (by decide)); have E5 := K9.blk (blk_alloc F5 (.cells #[.string p.key, .string p.value] 43)) (own_ne (FA.alloc (.cells #[.string p.key, .string p.value] 43)) (blk_alloc F5 (.cells #[.string p.key, .string p.value] 43)) (by decide)); have E8 := K9.blk (blk_alloc F8 (.cells #[.string p.key, .string p.value] 43)) (own_ne (FA.alloc (.cells #[.string p.key, .string p.value] 43)) (blk_alloc F8 (.cells #[.string p.key, .string p.value] 43)) (by decide)); have ES := K9.own (FS.alloc (.cells #[.string p.key, .string p.value] 43)) (own_ne_own (FS.alloc (.cells #[.string p.key, .string p.value] 43)) (FA.alloc (.cells #[.string p.key, .string p.value] 43)) (by decide)); have EA := own_flat hown9 [[.string p.key, .string p.value]] rfl; have bw9 : Below w.heap.size w w9 := below_own (chain bS7 (below_new _ (.cells #[.string p.key, .string p.value] 43))) hg9 (FA.alloc _) (by omega); obtain ⟨vb, vcb, rfl⟩ := own_form EA; have G3 := blk_set_far E3 (show w.heap.size ≠ wx.heap.size by omega) 0 (.slice vb (S.labels.length + 1) vcb); have G5 := blk_set_far E5 (show w.heap.size + 1 ≠ wx.heap.size by omega) 0 (.slice vb (S.labels.length + 1) vcb); have G8 := blk_set E8 0 (.slice vb (S.labels.length + 1) vcb); have GS := own_set ES E8 (by decide) 0 (.slice vb (S.labels.length + 1) vcb); have GA := own_set EA E8 (by decide) 0 (.slice vb (S.labels.length + 1) vcb); have bS9 := bw9.setCell (p := ⟨wx.heap.size, 0, none⟩) (show w.heap.size ≤ wx.heap.size by omega) (.slice vb (S.labels.length + 1) vcb); have h80 : w9.cell? ⟨wx.heap.size, 0, none⟩ = some (.slice va S.labels.length vca) := blk_cell E8 0; have h8f := blk_frozen E8 0; have h30 : w9.cell? ⟨w.heap.size, 0, none⟩ = some (.slice sa S.labels.length sc) := blk_cell E3 0; have h31 : w9.cell? ⟨w.heap.size, 1, none⟩ = some (.slice oa S.wants.length oc) := blk_cell E3 1; have l98 : wx.heap.size < w9.heap.size := blk_lt E8; have l90 : w.heap.size < w9.heap.size := blk_lt E3; have l91 : w.heap.size < w9.heap.size + 1 := (by omega); have hLA := hLP.append (Lists.one hP); have I9 : ((w9.setCell ⟨wx.heap.size, 0, none⟩ (.slice vb (S.labels.length + 1) vcb)).alloc (.cells #[.slice sa S.labels.length sc, .slice oa S.wants.length oc] 25)).heap[w9.heap.size]? = some (.cells #[.slice sa S.labels.length sc, .slice oa S.wants.length oc] 25 (0, 0)) := (by have := heap_alloc_new (w9.setCell ⟨wx.heap.size, 0, none⟩ (.slice vb (S.labels.length + 1) vcb)) (.cells #[.slice sa S.labels.length sc, .slice oa S.wants.length oc] 25); rwa [set_size] at this); have I3 := blk_alloc G3 (.cells #[.slice sa S.labels.length sc, .slice oa S.wants.length oc] 25); have I5 := blk_alloc G5 (.cells #[.slice sa S.labels.length sc, .slice oa S.wants.length oc] 25); have I8 := blk_alloc G8 (.cells #[.slice sa S.labels.length sc, .slice oa S.wants.length oc] 25); have IS := GS.alloc (.cells #[.slice sa S.labels.length sc, .slice oa S.wants.length oc] 25); have IA := GA.alloc (.cells #[.slice sa S.labels.length sc, .slice oa S.wants.length oc] 25); have ii := chain bS9 (below_new _ (.cells #[.slice sa S.labels.length sc, .slice oa S.wants.length oc] 25)); have M2 : (((w9.setCell ⟨wx.heap.size, 0, none⟩ (.slice vb (S.labels.length + 1) vcb)).alloc (.cells #[.slice sa S.labels.length sc, .slice oa S.wants.length oc] 25)).alloc (.cells #[] 37)).ownsRow (w9.heap.size + 1) 37 3 (.slice (some ⟨w9.heap.size + 1, 0, none⟩) 0 0) 0 [] := (by have := World.ownsRow_made (w := (w9.setCell ⟨wx.heap.size, 0, none⟩ (.slice vb (S.labels.length + 1) vcb)).alloc (.cells #[.slice sa S.labels.length sc, .slice oa S.wants.length oc] 25)) (base := ((w9.setCell ⟨wx.heap.size, 0, none⟩ (.slice vb (S.labels.length + 1) vcb)).alloc (.cells #[.slice sa S.labels.length sc, .slice oa S.wants.length oc] 25)).heap.size) (e := 37) (size := 3) #[] 0 (Nat.le_refl _) (by decide) rfl; rwa [World.size_alloc, set_size] at this); clear hown9 hg9 F3 F5 F8 FS FA K9 E3 E5 E8 ES EA G3 G5 G8 GS GA bS7 bS9 bw9 g80 g8f g50 g51 l78)
    | (at_builtin; refine wpList_append_own2 (o := ⟨some 36, _, _, _, _, _⟩) (base := w9.heap.size + 1) (base2 := w1.heap.size) (v := .slice (some ⟨w9.heap.size + 1, 0, none⟩) 0 0) (n := 0) (xs := []) (v2 := .slice oa S.wants.length oc) (m := S.wants.length) (ys := css.flatten) rfl _ _ 23 rfl Tryd.underlying23 hj0 hy0 hy1 hy2 rfl (by decide) rfl M2 rfl (IS.alloc _) (one_flat_Wt hL) (by unfold maxLen; omega) (by omega) (by simp) ?_; intro v11 w11 hown11 hg11 _; have K11 := Kept.fresh hg11 (by simp); have E3 := K11.blk_fresh I3; have E5 := K11.blk_fresh I5; have E8 := K11.blk_fresh I8; have E9 := K11.blk_fresh I9; have ES := K11.own_fresh IS; have EA := K11.own_fresh IA; have EB : w11.ownsRow (w9.heap.size + 1) 37 3 v11 S.wants.length css.flatten := (by simpa using hown11); have bw11 : Below w.heap.size w w11 := below_own (chain ii (below_new _ _)) hg11 M2 (by omega); have SB := own_apart_fresh IS hown11; obtain ⟨vd, vcd, rfl⟩ := own_form EB; have F3 := blk_set_far E3 (show w.heap.size ≠ w9.heap.size by omega) 1 (.slice vd S.wants.length vcd); have F5 := blk_set_far E5 (show w.heap.size + 1 ≠ w9.heap.size by omega) 1 (.slice vd S.wants.length vcd); have F8 := blk_set_far E8 (show wx.heap.size ≠ w9.heap.size by omega) 1 (.slice vd S.wants.length vcd); have F9 := blk_set E9 1 (.slice vd S.wants.length vcd); have FS := own_set ES E9 (by decide) 1 (.slice vd S.wants.length vcd); have FA := own_set EA E9 (by decide) 1 (.slice vd S.wants.length vcd); have FB := own_set EB E9 (by decide) 1 (.slice vd S.wants.length vcd); have bS11 := bw11.setCell (p := ⟨w9.heap.size, 1, none⟩) (show w.heap.size ≤ w9.heap.size by omega) (.slice vd S.wants.length vcd); have g91 : w11.cell? ⟨w9.heap.size, 1, none⟩ = some (.slice oa S.wants.length oc) := blk_cell E9 1; have g9f := blk_frozen E9 1; have g52 : w11.cell? ⟨w.heap.size + 1, 2, none⟩ = some (.string q.key) := blk_cell E5 2; have g53 : w11.cell? ⟨w.heap.size + 1, 3, none⟩ = some (.string q.how) := blk_cell E5 3; have g54 : w11.cell? ⟨w.heap.size + 1, 4, none⟩ = some uq := blk_cell E5 4; have l119 : w9.heap.size < w11.heap.size := blk_lt E9; have l95 : w.heap.size + 1 < w9.heap.size := (by omega); clear hown11 hg11 M2 I3 I5 I8 I9 IS IA K11 E3 E5 E8 E9 ES EA EB ii bw11 h80 h8f h30 h31)
    | (at_builtin; refine wpList_append_own_at (o := ⟨some 43, _, _, _, _, _⟩) _ rfl _ _ 23 rfl (w9.heap.size + 1) 37 j0 _ 3 56 Tryd.underlying23 hj0 hy0 hy1 hy2 rfl (by decide) (.slice vd S.wants.length vcd) S.wants.length css.flatten rfl (FB.alloc _) ⟨w11.heap.size, 0, none⟩ 1 1 [.string q.key, .string q.how, uq] rfl rfl (cells_new (by simp) _ _) (by intro u hu; simp only [List.mem_cons, List.not_mem_nil, or_false] at hu; rcases hu with rfl | rfl | rfl; rfl; rfl; exact uqs) (by unfold maxLen; omega) (by omega) (by simp; omega) ?_; intro v13 w13 hown13 hg13 _ _; have K13 := Kept.grown hg13; have E3 := K13.blk (blk_alloc F3 (.cells #[.string q.key, .string q.how, uq] 37)) (own_ne (FB.alloc (.cells #[.string q.key, .string q.how, uq] 37)) (blk_alloc F3 (.cells #[.string q.key, .string q.how, uq] 37)) (by decide)); have E5 := K13.blk (blk_alloc F5 (.cells #[.string q.key, .string q.how, uq] 37)) (own_ne (FB.alloc (.cells #[.string q.key, .string q.how, uq] 37)) (blk_alloc F5 (.cells #[.string q.key, .string q.how, uq] 37)) (by decide)); have E8 := K13.blk (blk_alloc F8 (.cells #[.string q.key, .string q.how, uq] 37)) (own_ne (FB.alloc (.cells #[.string q.key, .string q.how, uq] 37)) (blk_alloc F8 (.cells #[.string q.key, .string q.how, uq] 37)) (by decide)); have E9 := K13.blk (blk_alloc F9 (.cells #[.string q.key, .string q.how, uq] 37)) (own_ne (FB.alloc (.cells #[.string q.key, .string q.how, uq] 37)) (blk_alloc F9 (.cells #[.string q.key, .string q.how, uq] 37)) (by decide)); have ES := K13.own (FS.alloc (.cells #[.string q.key, .string q.how, uq] 37)) SB; have EA := K13.own (FA.alloc (.cells #[.string q.key, .string q.how, uq] 37)) (own_ne_own (FA.alloc (.cells #[.string q.key, .string q.how, uq] 37)) (FB.alloc (.cells #[.string q.key, .string q.how, uq] 37)) (by decide)); have EB := own_flat hown13 [[.string q.key, .string q.how, uq]] rfl; have bw13 : Below w.heap.size w w13 := below_own (chain bS11 (below_new _ (.cells #[.string q.key, .string q.how, uq] 37))) hg13 (FB.alloc _) (by omega); obtain ⟨ve, vce, rfl⟩ := own_form EB; have G3 := blk_set_far E3 (show w.heap.size ≠ w9.heap.size by omega) 1 (.slice ve (S.wants.length + 1) vce); have G5 := blk_set_far E5 (show w.heap.size + 1 ≠ w9.heap.size by omega) 1 (.slice ve (S.wants.length + 1) vce); have G8 := blk_set_far E8 (show wx.heap.size ≠ w9.heap.size by omega) 1 (.slice ve (S.wants.length + 1) vce); have G9 := blk_set E9 1 (.slice ve (S.wants.length + 1) vce); have GS := own_set ES E9 (by decide) 1 (.slice ve (S.wants.length + 1) vce); have GA := own_set EA E9 (by decide) 1 (.slice ve (S.wants.length + 1) vce); have GB := own_set EB E9 (by decide) 1 (.slice ve (S.wants.length + 1) vce); have bS13 := bw13.setCell (p := ⟨w9.heap.size, 1, none⟩) (show w.heap.size ≤ w9.heap.size by omega) (.slice ve (S.wants.length + 1) vce); have h91 : w13.cell? ⟨w9.heap.size, 1, none⟩ = some (.slice vd S.wants.length vcd) := blk_cell E9 1; have h9f := blk_frozen E9 1; have h30 : w13.cell? ⟨w.heap.size, 0, none⟩ = some (.slice sa S.labels.length sc) := blk_cell E3 0; have h31 : w13.cell? ⟨w.heap.size, 1, none⟩ = some (.slice oa S.wants.length oc) := blk_cell E3 1; have l139 : w9.heap.size < w13.heap.size := blk_lt E9; have l130 : w.heap.size < w13.heap.size := blk_lt E3; have l131 : w.heap.size < w13.heap.size + 1 := (by omega); have hLB := hL.append (Lists.one hQ); have I10 : ((w13.setCell ⟨w9.heap.size, 1, none⟩ (.slice ve (S.wants.length + 1) vce)).alloc (.cells #[.slice sa S.labels.length sc, .slice oa S.wants.length oc] 25)).heap[w13.heap.size]? = some (.cells #[.slice sa S.labels.length sc, .slice oa S.wants.length oc] 25 (0, 0)) := (by have := heap_alloc_new (w13.setCell ⟨w9.heap.size, 1, none⟩ (.slice ve (S.wants.length + 1) vce)) (.cells #[.slice sa S.labels.length sc, .slice oa S.wants.length oc] 25); rwa [set_size] at this); have I3 := blk_alloc G3 (.cells #[.slice sa S.labels.length sc, .slice oa S.wants.length oc] 25); have I5 := blk_alloc G5 (.cells #[.slice sa S.labels.length sc, .slice oa S.wants.length oc] 25); have I8 := blk_alloc G8 (.cells #[.slice sa S.labels.length sc, .slice oa S.wants.length oc] 25); have I9 := blk_alloc G9 (.cells #[.slice sa S.labels.length sc, .slice oa S.wants.length oc] 25); have IS := GS.alloc (.cells #[.slice sa S.labels.length sc, .slice oa S.wants.length oc] 25); have IA := GA.alloc (.cells #[.slice sa S.labels.length sc, .slice oa S.wants.length oc] 25); have IB := GB.alloc (.cells #[.slice sa S.labels.length sc, .slice oa S.wants.length oc] 25); have ii := chain bS13 (below_new _ (.cells #[.slice sa S.labels.length sc, .slice oa S.wants.length oc] 25)); have M3 : (((w13.setCell ⟨w9.heap.size, 1, none⟩ (.slice ve (S.wants.length + 1) vce)).alloc (.cells #[.slice sa S.labels.length sc, .slice oa S.wants.length oc] 25)).alloc (.cells #[] 37)).ownsRow (w13.heap.size + 1) 37 3 (.slice (some ⟨w13.heap.size + 1, 0, none⟩) 0 0) 0 [] := (by have := World.ownsRow_made (w := (w13.setCell ⟨w9.heap.size, 1, none⟩ (.slice ve (S.wants.length + 1) vce)).alloc (.cells #[.slice sa S.labels.length sc, .slice oa S.wants.length oc] 25)) (base := ((w13.setCell ⟨w9.heap.size, 1, none⟩ (.slice ve (S.wants.length + 1) vce)).alloc (.cells #[.slice sa S.labels.length sc, .slice oa S.wants.length oc] 25)).heap.size) (e := 37) (size := 3) #[] 0 (Nat.le_refl _) (by decide) rfl; rwa [World.size_alloc, set_size] at this); clear hown13 hg13 F3 F5 F8 F9 FS FA FB K13 E3 E5 E8 E9 ES EA EB G3 G5 G8 G9 GS GA GB bS11 bS13 bw13 g91 g9f g52 g53 g54 l119)
    | (at_builtin; refine wpList_append_own2 (o := ⟨some 49, _, _, _, _, _⟩) (base := w13.heap.size + 1) (base2 := w1.heap.size) (v := .slice (some ⟨w13.heap.size + 1, 0, none⟩) 0 0) (n := 0) (xs := []) (v2 := .slice oa S.wants.length oc) (m := S.wants.length) (ys := css.flatten) rfl _ _ 23 rfl Tryd.underlying23 hj0 hy0 hy1 hy2 rfl (by decide) rfl M3 rfl (IS.alloc _) (one_flat_Wt hL) (by unfold maxLen; omega) (by omega) (by simp) ?_; intro v15 w15 hown15 hg15 _; have K15 := Kept.fresh hg15 (by simp); have E3 := K15.blk_fresh I3; have E5 := K15.blk_fresh I5; have E8 := K15.blk_fresh I8; have E9 := K15.blk_fresh I9; have E10 := K15.blk_fresh I10; have ES := K15.own_fresh IS; have EA := K15.own_fresh IA; have EB := K15.own_fresh IB; have EC : w15.ownsRow (w13.heap.size + 1) 37 3 v15 S.wants.length css.flatten := (by simpa using hown15); have bw15 : Below w.heap.size w w15 := below_own (chain ii (below_new _ _)) hg15 M3 (by omega); have SC := own_apart_fresh IS hown15; have BC := own_apart_fresh IB hown15; obtain ⟨vf, vcf, rfl⟩ := own_form EC; have F3 := blk_set_far E3 (show w.heap.size ≠ w13.heap.size by omega) 1 (.slice vf S.wants.length vcf); have F5 := blk_set_far E5 (show w.heap.size + 1 ≠ w13.heap.size by omega) 1 (.slice vf S.wants.length vcf); have F8 := blk_set_far E8 (show wx.heap.size ≠ w13.heap.size by omega) 1 (.slice vf S.wants.length vcf); have F9 := blk_set_far E9 (show w9.heap.size ≠ w13.heap.size by omega) 1 (.slice vf S.wants.length vcf); have F10 := blk_set E10 1 (.slice vf S.wants.length vcf); have FS := own_set ES E10 (by decide) 1 (.slice vf S.wants.length vcf); have FA := own_set EA E10 (by decide) 1 (.slice vf S.wants.length vcf); have FB := own_set EB E10 (by decide) 1 (.slice vf S.wants.length vcf); have FC := own_set EC E10 (by decide) 1 (.slice vf S.wants.length vcf); have bS15 := bw15.setCell (p := ⟨w13.heap.size, 1, none⟩) (show w.heap.size ≤ w13.heap.size by omega) (.slice vf S.wants.length vcf); have g101 : w15.cell? ⟨w13.heap.size, 1, none⟩ = some (.slice oa S.wants.length oc) := blk_cell E10 1; have g10f := blk_frozen E10 1; have g31 : w15.cell? ⟨w.heap.size, 1, none⟩ = some (.slice oa S.wants.length oc) := blk_cell E3 1; clear hown15 hg15 M3 I3 I5 I8 I9 I10 IS IA IB K15 E3 E5 E8 E9 E10 ES EA EB EC ii bw15 h91 h9f h30 h31)
    | (at_builtin; refine wpList_append_own2 (o := ⟨some 55, _, _, _, _, _⟩) (base := w13.heap.size + 1) (base2 := w1.heap.size) (v := .slice vf S.wants.length vcf) (n := S.wants.length) (xs := css.flatten) (v2 := .slice oa S.wants.length oc) (m := S.wants.length) (ys := css.flatten) rfl _ _ 23 rfl Tryd.underlying23 hj0 hy0 hy1 hy2 rfl (by decide) rfl FC rfl FS (one_flat_Wt hL) (by unfold maxLen; omega) (by omega) (by have := (blk_lt F10); omega) ?_; intro v17 w17 hown17 hg17 _; have K17 := Kept.grown hg17; have E3 := K17.blk F3 (own_ne FC F3 (by decide)); have E5 := K17.blk F5 (own_ne FC F5 (by decide)); have E8 := K17.blk F8 (own_ne FC F8 (by decide)); have E9 := K17.blk F9 (own_ne FC F9 (by decide)); have E10 := K17.blk F10 (own_ne FC F10 (by decide)); have EA := K17.own FA (own_ne_own FA FC (by decide)); have ES := K17.own FS SC; have EB := K17.own FB BC; have EC := own_flat hown17 css rfl; have bw17 : Below w.heap.size w w17 := below_own bS15 hg17 FC (by omega); obtain ⟨vg, vcg, rfl⟩ := own_form EC; have G3 := blk_set_far E3 (show w.heap.size ≠ w13.heap.size by omega) 1 (.slice vg (S.wants.length + S.wants.length) vcg); have G5 := blk_set_far E5 (show w.heap.size + 1 ≠ w13.heap.size by omega) 1 (.slice vg (S.wants.length + S.wants.length) vcg); have G8 := blk_set_far E8 (show wx.heap.size ≠ w13.heap.size by omega) 1 (.slice vg (S.wants.length + S.wants.length) vcg); have G9 := blk_set_far E9 (show w9.heap.size ≠ w13.heap.size by omega) 1 (.slice vg (S.wants.length + S.wants.length) vcg); have G10 := blk_set E10 1 (.slice vg (S.wants.length + S.wants.length) vcg); have GS := own_set ES E10 (by decide) 1 (.slice vg (S.wants.length + S.wants.length) vcg); have GA := own_set EA E10 (by decide) 1 (.slice vg (S.wants.length + S.wants.length) vcg); have GB := own_set EB E10 (by decide) 1 (.slice vg (S.wants.length + S.wants.length) vcg); have GC := own_set EC E10 (by decide) 1 (.slice vg (S.wants.length + S.wants.length) vcg); have bS17 := bw17.setCell (p := ⟨w13.heap.size, 1, none⟩) (show w.heap.size ≤ w13.heap.size by omega) (.slice vg (S.wants.length + S.wants.length) vcg); have h101 : w17.cell? ⟨w13.heap.size, 1, none⟩ = some (.slice vf S.wants.length vcf) := blk_cell E10 1; have h10f := blk_frozen E10 1; have h30 : w17.cell? ⟨w.heap.size, 0, none⟩ = some (.slice sa S.labels.length sc) := blk_cell E3 0; have h31 : w17.cell? ⟨w.heap.size, 1, none⟩ = some (.slice oa S.wants.length oc) := blk_cell E3 1; have hLC := hL.append hL; clear hown17 hg17 F3 F5 F8 F9 F10 FS FA FB FC K17 E3 E5 E8 E9 E10 ES EA EB EC bS15 bw17 g101 g10f g31))
  obtain ⟨wf, hwf⟩ : ∃ wf, wf = w17.setCell ⟨w13.heap.size, 1, none⟩ (.slice vg (S.wants.length + S.wants.length) vcg) := ⟨_, rfl⟩
  rw [← hwf]
  rw [← hwf] at G3 G5 G8 G9 G10 GS GA GB GC bS17
  have RF := Lib.hid (show ∀ W, Below wf.heap.size wf W → Below w.heap.size w W ∧ RowAt B (prR B) W (.slice sa S.labels.length sc) S.labels ∧ RowAt B (wtR B) W (.slice oa S.wants.length oc) S.wants ∧ RowAt B (prR B) W (.slice vb (S.labels.length + 1) vcb) (S.labels ++ [p]) ∧ RowAt B (wtR B) W (.slice ve (S.wants.length + 1) vce) (S.wants ++ [q]) ∧ RowAt B (wtR B) W (.slice vg (S.wants.length + S.wants.length) vcg) (S.wants ++ S.wants) from fun W hW => by
    have hb := chain bS17 hW
    have hs := fun (base : Nat) (e : TypeId) (k : Nat) (v : Value) (n : Nat) (xs : List Value) (h : wf.ownsRow base e k v n xs) => own_stays h fun i _ hi => hW.block i hi
    exact ⟨hb, ⟨sa, sc, rfl, hsmc, hsc, by omega, hsr.later hb⟩, RowAt.of_own (hs _ _ _ _ _ _ GS) rfl (hL.later hb) (by omega), RowAt.of_own (hs _ _ _ _ _ _ GA) (by simp) (hLA.later hb) (by simp; omega), RowAt.of_own (hs _ _ _ _ _ _ GB) (by simp) (hLB.later hb) (by simp; omega), RowAt.of_own (hs _ _ _ _ _ _ GC) (by simp) (hLC.later hb) (by simp; omega)⟩)
  have cA := fun W hW => Selects_any B hB ⟨S.labels ++ [p], S.wants⟩ (.slice vb (S.labels.length + 1) vcb) (.slice oa S.wants.length oc) a c l8 (by omega) W (RF.out W hW).2.2.2.1 (RF.out W hW).2.2.1 (hr8.later (RF.out W hW).1)
  have cB := fun W hW => Selects_any B hB ⟨S.labels, S.wants ++ [q]⟩ (.slice sa S.labels.length sc) (.slice ve (S.wants.length + 1) vce) a c l8 (by omega) W (RF.out W hW).2.1 (RF.out W hW).2.2.2.2.1 (hr8.later (RF.out W hW).1)
  have cC := fun W hW => Selects_any B hB ⟨S.labels, S.wants ++ S.wants⟩ (.slice sa S.labels.length sc) (.slice vg (S.wants.length + S.wants.length) vcg) a c l8 (by omega) W (RF.out W hW).2.1 (RF.out W hW).2.2.2.2.2 (hr8.later (RF.out W hW).1)
  have cS := fun W hW => Selects_any B hB S (.slice sa S.labels.length sc) (.slice oa S.wants.length oc) a c l8 (by omega) W (RF.out W hW).2.1 (RF.out W hW).2.2.1 (hr8.later (RF.out W hW).1)
  have cQ := fun W hW => Wants_any B hB q uq a c l8 (by omega) W (hq.later (RF.out W hW).1) (hr8.later (RF.out W hW).1)
  have cH := fun W hW => Has_any B hB a c l8 (by omega) p.key W (hr8.later (RF.out W hW).1)
  unfold HasTo at cH
  rw [sel_pair] at cA
  rw [sel_want] at cB
  rw [sel_twice] at cC
  unfold pairB at cA
  generalize selB S l8 = al at *
  generalize wantsB q l8 = wq at *
  generalize hasV l8 p.key = hv at *
  generalize hasB l8 p.key = is at *
  obtain ⟨vm, hvm⟩ : ∃ vm, (hv.toList == p.value.toList) = vm := ⟨_, rfl⟩
  rw [hvm] at cA
  have BF := Lib.hid (show ∀ W, Below wf.heap.size wf W → (W.cell? ⟨w.heap.size + 1, 0, none⟩ = some (.string p.key) ∧ W.cell? ⟨w.heap.size + 1, 1, none⟩ = some (.string p.value) ∧ W.cell? ⟨w.heap.size + 1, 2, none⟩ = some (.string q.key) ∧ W.cell? ⟨w.heap.size + 1, 3, none⟩ = some (.string q.how) ∧ W.cell? ⟨w.heap.size + 1, 4, none⟩ = some uq) ∧ (W.cell? ⟨wx.heap.size, 0, none⟩ = some (.slice vb (S.labels.length + 1) vcb) ∧ W.cell? ⟨wx.heap.size, 1, none⟩ = some (.slice oa S.wants.length oc)) ∧ (W.cell? ⟨w9.heap.size, 0, none⟩ = some (.slice sa S.labels.length sc) ∧ W.cell? ⟨w9.heap.size, 1, none⟩ = some (.slice ve (S.wants.length + 1) vce)) ∧ (W.cell? ⟨w13.heap.size, 0, none⟩ = some (.slice sa S.labels.length sc) ∧ W.cell? ⟨w13.heap.size, 1, none⟩ = some (.slice vg (S.wants.length + S.wants.length) vcg)) from fun W hW =>
    ⟨⟨blk_cell (blk_later G5 hW) 0, blk_cell (blk_later G5 hW) 1, blk_cell (blk_later G5 hW) 2, blk_cell (blk_later G5 hW) 3, blk_cell (blk_later G5 hW) 4⟩, ⟨blk_cell (blk_later G8 hW) 0, blk_cell (blk_later G8 hW) 1⟩, ⟨blk_cell (blk_later G9 hW) 0, blk_cell (blk_later G9 hW) 1⟩, ⟨blk_cell (blk_later G10 hW) 0, blk_cell (blk_later G10 hW) 1⟩⟩)
  clear G3 G5 G8 G9 G10 GS GA GB GC hwf h101 h10f h30 h31
  refine (cS _ (Below.refl _ _)).mono ?_
  rintro e w18 ⟨rfl, hb18⟩
  obtain ⟨⟨a50, a51, a52, a53, a54⟩, _⟩ := BF.out w18 hb18
  go_wp2_with fail
  refine (cH _ hb18).mono ?_
  rintro e w19 ⟨rfl, hb19⟩
  have hb19' := chain hb18 hb19
  clear a50 a51 a52 a53 a54
  obtain ⟨⟨a50, a51, a52, a53, a54⟩, ⟨a80, a81⟩, ⟨a90, a91⟩, ⟨a100, a101⟩⟩ := BF.out w19 hb19'
  cases al with
  | false =>
    go_wp2_with fail
    refine (cA _ hb19').mono ?_
    rintro e w20 ⟨rfl, hb20⟩
    have hb20' := chain hb19' hb20
    clear a50 a51 a52 a53 a54 a80 a81 a90 a91 a100 a101
    obtain ⟨⟨a50, a51, a52, a53, a54⟩, ⟨a80, a81⟩, ⟨a90, a91⟩, ⟨a100, a101⟩⟩ := BF.out w20 hb20'
    go_wp2_with fail
    refine (cB _ hb20').mono ?_
    rintro e w21 ⟨rfl, hb21⟩
    have hb21' := chain hb20' hb21
    clear a50 a51 a52 a53 a54 a80 a81 a90 a91 a100 a101
    obtain ⟨⟨a50, a51, a52, a53, a54⟩, ⟨a80, a81⟩, ⟨a90, a91⟩, ⟨a100, a101⟩⟩ := BF.out w21 hb21'
    have hb22' := hb21'
    go_wp2_with fail
    refine (cC _ hb22').mono ?_
    rintro e w23 ⟨rfl, hb23⟩
    go_wp2
    go_ret
    exact ⟨rfl, chain (RF.out _ hb22').1 hb23⟩
  | true =>
    cases is with
    | false =>
      go_wp2_with fail
      refine (cA _ hb19').mono ?_
      rintro e w20 ⟨rfl, hb20⟩
      have hb20' := chain hb19' hb20
      clear a50 a51 a52 a53 a54 a80 a81 a90 a91 a100 a101
      obtain ⟨⟨a50, a51, a52, a53, a54⟩, ⟨a80, a81⟩, ⟨a90, a91⟩, ⟨a100, a101⟩⟩ := BF.out w20 hb20'
      go_wp2_with fail
      refine (cB _ hb20').mono ?_
      rintro e w21 ⟨rfl, hb21⟩
      have hb21' := chain hb20' hb21
      clear a50 a51 a52 a53 a54 a80 a81 a90 a91 a100 a101
      obtain ⟨⟨a50, a51, a52, a53, a54⟩, ⟨a80, a81⟩, ⟨a90, a91⟩, ⟨a100, a101⟩⟩ := BF.out w21 hb21'
      go_wp2_with fail
      refine (cQ _ hb21').mono ?_
      rintro e w22 ⟨rfl, hb22⟩
      have hb22' := chain hb21' hb22
      clear a50 a51 a52 a53 a54 a80 a81 a90 a91 a100 a101
      obtain ⟨⟨a50, a51, a52, a53, a54⟩, ⟨a80, a81⟩, ⟨a90, a91⟩, ⟨a100, a101⟩⟩ := BF.out w22 hb22'
      go_wp2_with fail
      refine (cC _ hb22').mono ?_
      rintro e w23 ⟨rfl, hb23⟩
      go_wp2
      go_ret
      exact ⟨rfl, chain (RF.out _ hb22').1 hb23⟩
    | true =>
      go_wp2_with fail
      refine (cA _ hb19').mono ?_
      rintro e w20 ⟨rfl, hb20⟩
      have hb20' := chain hb19' hb20
      clear a50 a51 a52 a53 a54 a80 a81 a90 a91 a100 a101
      obtain ⟨⟨a50, a51, a52, a53, a54⟩, ⟨a80, a81⟩, ⟨a90, a91⟩, ⟨a100, a101⟩⟩ := BF.out w20 hb20'
      go_wp2_with fail
      refine (cB _ hb20').mono ?_
      rintro e w21 ⟨rfl, hb21⟩
      have hb21' := chain hb20' hb21
      clear a50 a51 a52 a53 a54 a80 a81 a90 a91 a100 a101
      obtain ⟨⟨a50, a51, a52, a53, a54⟩, ⟨a80, a81⟩, ⟨a90, a91⟩, ⟨a100, a101⟩⟩ := BF.out w21 hb21'
      go_wp2_with fail
      refine (cQ _ hb21').mono ?_
      rintro e w22 ⟨rfl, hb22⟩
      have hb22' := chain hb21' hb22
      clear a50 a51 a52 a53 a54 a80 a81 a90 a91 a100 a101
      obtain ⟨⟨a50, a51, a52, a53, a54⟩, ⟨a80, a81⟩, ⟨a90, a91⟩, ⟨a100, a101⟩⟩ := BF.out w22 hb22'
      go_wp2_with fail
      refine (cC _ hb22').mono ?_
      rintro e w23 ⟨rfl, hb23⟩
      go_wp2
      go_ret
      exact ⟨rfl, chain (RF.out _ hb22').1 hb23⟩
end Go.Proofs.YtodobacgbbpmfaaDoor.lab
