/- Layer 4: the law TreeRows. -/
import Derived.Deep.CutBlock
import Derived.Test.YteocenjneoclbaaDoorTrmBackP
import Derived.Test.YteocenjneoclbaaDoorTrmKeep
import Derived.Test.YteocenjneoclbaaDoorTrmQuiet
import Derived.Test.YteocenjneoclbaaDoorTrmRCanon
import Derived.Test.YteocenjneoclbaaDoorTrmRMake
import Derived.Test.YteocenjneoclbaaDoorTrmRRow
import Derived.Test.YteocenjneoclbaaDoorTrmSameI
import Derived.Test.YteocenjneoclbaaDoorTrmSymG
namespace Go.Proofs.YteocenjneoclbaaDoor.tre
open Go.RowKit Go.Shelf

theorem rRow_any (v : V) (hc : countV v ≤ 100000) (hv : depthV v < 4611686018427387904) (S : Nat → Prop) (W : World) (r t : Sl) (hS : ∀ g, S g → g < W.heap.size) (hh : HV S W v r t) :
    Calls Tryd.prog 10 #[.agg #[.int .i64 v.kind, .int .i64 v.int, .string v.text, .slice r.a r.n r.c, .slice t.a t.n t.c]] W fun e w' => ∃ sl : Sl, e = .returned (.slice sl.a sl.n sl.c) ∧
      w'.ownsRow W.heap.size 55 5 (.slice sl.a sl.n sl.c) (rowV v 0 ⟨#[]⟩).length (flatI (rowV v 0 ⟨#[]⟩)) ∧ Below W.heap.size W w' := by
  have hb1 : ∀ o, Below W.heap.size W (W.alloc o) := fun o => (Below.refl _ _).alloc (Nat.le_refl _) o
  have hcall := fun o => rrow_any v 0 ⟨#[]⟩ S (W.alloc o) r t hc (Int.le_refl _) (by omega) (fun g hg => Nat.lt_of_lt_of_le (hS g hg) (hb1 o).size) (hh.later (hb1 o))
  have Hb := Lib.hid hb1
  clear hh hS hb1
  go_enter Tryd.func10, Tryd.ntmps10
  go_wp2_with fail
  refine (hcall _).mono ?_
  rintro e w1 ⟨sl, rfl, ho, hb⟩
  have H := Lib.hid (And.intro ho hb)
  clear ho hb
  go_wp2_with fail
  go_ret
  exact ⟨sl, rfl, own_mono H.out.1 (by rw [size_alloc]; omega), (Hb.out _).trans (H.out.2.mono (Hb.out _).size)⟩
theorem len_row (v : V) (h : countV v ≤ 2000) : (rowV v 0 ⟨#[]⟩).length ≤ 100000 := by rw [rowV_len]; omega
set_option maxRecDepth 100000 in
set_option maxHeartbeats 16000000 in
theorem lawRows (a : Option Addr) (c : Nat) (l : List It) {W : World} (h : ItemsIn W a l) (what : Int) (hT : utf.Tab W) :
    Calls Tryd.prog 3 #[.slice a l.length c, .int .i64 what] W fun e w' => e = .returned (.bool true) ∧ Below W.heap.size W w' := by
  have haw := awake_any W hT
  have hs1 := fun w1 (hb : Below W.heap.size W w1) => shaped_anyM a c l (h.later hb)
  have H := Lib.hid hs1
  have HT := Lib.hid hT
  clear hs1 h hT
  go_enter Tryd.func3, Tryd.ntmps3
  go_wp2_with fail
  refine haw.mono ?_
  rintro e w1 ⟨rfl, hb1⟩
  have H1 := Lib.hid hb1
  clear haw hb1
  go_wp2_with fail
  refine (H.out w1 H1.out).mono ?_
  rintro e w2 ⟨v, pv, qv, rfl, hv⟩
  have hmm := hv.out.2.2.1
  obtain ⟨xss, zss, hmv⟩ := hmm
  have hmv0 : MV W.heap.size w2 v pv qv xss zss := by
    obtain ⟨h1, h2, h3, h4, h5⟩ := hmv
    have hw : ∀ k, w1.heap.size ≤ k → W.heap.size ≤ k := fun k hk => Nat.le_trans H1.out.size hk
    refine ⟨h1.map (fun g hg _ => ⟨hw g hg, rfl⟩), h2.map (fun g hg _ => ⟨hw g hg, rfl⟩), h3, fun i x y hx hy => Lies.map (fun k hk _ => ⟨⟨hw k hk.1, hk.2⟩, rfl⟩) _ _ (h4 i x y hx hy), fun i x y hx hy => ?_⟩
    obtain ⟨ys, e, hl⟩ := h5 i x y hx hy
    exact ⟨ys, e, Lies.map (fun k hk _ => ⟨⟨hw k hk.1, hk.2⟩, rfl⟩) _ _ hl⟩
  have hb02 := H1.out.trans (hv.out.2.2.2.mono H1.out.size)
  obtain ⟨hd12, hc2k, hshape⟩ := check_parts hv.out.1
  have HB0 := Lib.hid (RZ.new (v := v) (pv := pv) (qv := qv) hb02)
  have HF := Lib.hid (And.intro (show Few v from ⟨hv.out.2.1, by omega⟩) (hmv0.hv.map (S' := fun g => g < w2.heap.size) (w' := w2) (fun k _ hl => ⟨hl, rfl⟩)))
  have HM := Lib.hid hmv0
  have HO := Lib.hid (ok_of_check hv.out.1)
  have HS := Lib.hid hv.out.2.1
  have HN := Lib.hid (And.intro hc2k (And.intro hd12 (len_row v hc2k)))
  have HL := Lib.hid (And.intro ((okC_eq v).1 HO.out).1 ((okC_eq v).1 HO.out).2.1)
  have HC2 := Lib.hid hc2k
  clear hv hmv hmv0 hb02 hd12 hc2k hshape
  go_upto_block 0 with fail
  generalize hwz : (w2.alloc (.cells #[.int .i64 v.kind, .int .i64 v.int, .string v.text, .slice pv.a pv.n pv.c, .slice qv.a qv.n qv.c] 27)).alloc (.cells #[.int .i64 v.kind, .int .i64 v.int, .string v.text, .slice pv.a pv.n pv.c, .slice qv.a qv.n qv.c] 27) = wz at HB0
  have HB : Hid (RZ W w2 wz v pv qv) := HB0
  have lv : w2.heap.size < wz.heap.size := (Array.getElem?_eq_some_iff.1 HB.out.bv).1
  have lw : w2.heap.size + 1 < wz.heap.size := (Array.getElem?_eq_some_iff.1 HB.out.bw).1
  clear HB0 hwz
  go_cut [] from 14 to 52 (fun wc => ∃ (u : V) (pu qu : Sl), Hid (Few u ∧ St W wc w2.heap.size (w2.heap.size + 1) v u pv qv pu qu))
  case first =>
    go_upto_region 5 with fail
    generalize bits .and .i64 what 7 = m
    have v0 : wz.cell? ⟨w2.heap.size, 0, none⟩ = some (.int .i64 v.kind) := by rw [blk_cell HB.out.bv]; rfl
    have v1 : wz.cell? ⟨w2.heap.size, 1, none⟩ = some (.int .i64 v.int) := by rw [blk_cell HB.out.bv]; rfl
    have v2 : wz.cell? ⟨w2.heap.size, 2, none⟩ = some (.string v.text) := by rw [blk_cell HB.out.bv]; rfl
    have v3 : wz.cell? ⟨w2.heap.size, 3, none⟩ = some (.slice pv.a pv.n pv.c) := by rw [blk_cell HB.out.bv]; rfl
    have v4 : wz.cell? ⟨w2.heap.size, 4, none⟩ = some (.slice qv.a qv.n qv.c) := by rw [blk_cell HB.out.bv]; rfl
    have x0 : wz.cell? ⟨w2.heap.size + 1, 0, none⟩ = some (.int .i64 v.kind) := by rw [blk_cell HB.out.bw]; rfl
    have x1 : wz.cell? ⟨w2.heap.size + 1, 1, none⟩ = some (.int .i64 v.int) := by rw [blk_cell HB.out.bw]; rfl
    have x2 : wz.cell? ⟨w2.heap.size + 1, 2, none⟩ = some (.string v.text) := by rw [blk_cell HB.out.bw]; rfl
    have x3 : wz.cell? ⟨w2.heap.size + 1, 3, none⟩ = some (.slice pv.a pv.n pv.c) := by rw [blk_cell HB.out.bw]; rfl
    have x4 : wz.cell? ⟨w2.heap.size + 1, 4, none⟩ = some (.slice qv.a qv.n qv.c) := by rw [blk_cell HB.out.bw]; rfl
    have f0 := blk_frozen HB.out.bw 0
    have f1 := blk_frozen HB.out.bw 1
    have f2 := blk_frozen HB.out.bw 2
    have f3 := blk_frozen HB.out.bw 3
    have f4 := blk_frozen HB.out.bw 4
    by_cases hm : m = 1
    · have hmb : (m == 1) = true := by simp [hm]
      clear hm
      go_wp2_with fail
      go_meet
      exact ⟨.mk v.kind v.int ⟨#[120]⟩ v.list v.fields, pv, qv, Lib.hid ⟨few_same HF.out.1 _ _ _ (by decide), HB.out.set HF.out.2 2 _ rfl rfl rfl⟩⟩
    · have hm1 : (m == 1) = false := by simpa using hm
      clear hm
      by_cases hm : m = 2
      · have hmb : (m == 2) = true := by simp [hm]
        clear hm
        go_wp2_with fail
        go_meet
        exact ⟨.mk v.kind 2 v.text v.list v.fields, pv, qv, Lib.hid ⟨few_same HF.out.1 _ _ _ ((smallV_eq v).1 HF.out.1.1).1, HB.out.set HF.out.2 1 _ rfl rfl rfl⟩⟩
      · have hm2 : (m == 2) = false := by simpa using hm
        clear hm
        by_cases hm : m = 3
        · have hmb : (m == 3) = true := by simp [hm]
          clear hm
          go_wp2_with fail
          go_meet
          exact ⟨.mk _ v.int v.text v.list v.fields, pv, qv, Lib.hid ⟨few_same HF.out.1 _ _ _ ((smallV_eq v).1 HF.out.1.1).1, HB.out.set HF.out.2 0 _ rfl rfl rfl⟩⟩
        · have hm3 : (m == 3) = false := by simpa using hm
          clear hm
          by_cases hm : m = 4
          · have hmb : (m == 4) = true := by simp [hm]
            clear hm
            obtain ⟨i0', hi0, hz0, hz1, hz2⟩ := info_of info_V
            have hrow : wz.ownsRow 0 27 5 (.slice pv.a pv.n pv.c) v.list.length xss.flatten := own_keep HM.out.1.2.2.1 (fun g e => HB.out.keep g (HM.out.1.2.2.1.lt g e).2)
            have hownA := fun o => hrow.alloc o
            have hlen : v.list.length ≤ 100000 := HL.out.1
            clear hrow
            go_wp2_with (first
              | (at_builtin; go_loud (refine wpList_keep rfl _ _ 24 rfl 0 27 i0' _ 5 80 Tryd.underlying24 hi0 hz0 hz1 hz2 rfl (by decide) _ _ _ rfl (hownA _) ⟨wz.heap.size, 0, none⟩ 1 1 [.int .i64 v.kind, .int .i64 v.int, .string v.text, .slice pv.a pv.n pv.c, .slice qv.a qv.n qv.c] rfl rfl (World.news_of_block (cs := #[.int .i64 v.kind, .int .i64 v.int, .string v.text, .slice pv.a pv.n pv.c, .slice qv.a qv.n qv.c]) (t := 27) (fr := (0, 0)) (block_new wz _)) (by simp [Value.oneCell']) (by unfold maxLen; omega) (by omega) (Nat.zero_le _) ?_); intro v' w6 hown6 hkeep6 hgrow6 hat6; obtain ⟨g', cap', rfl, _, _⟩ := hown6.form (by omega); have m6 := (hgrow6.block (w2.heap.size + 1) (by rw [size_alloc]; omega) (fun e => by have := (HM.out.1.2.2.1.lt _ e.symm).2; omega)).trans ((block_old lw).trans HB.out.bw); have fr6 := blk_frozen m6 3; have l6 := (Array.getElem?_eq_some_iff.1 m6).1; have y0 : w6.cell? ⟨w2.heap.size + 1, 0, none⟩ = some (.int .i64 v.kind) := (by rw [blk_cell m6]; rfl); have y1 : w6.cell? ⟨w2.heap.size + 1, 1, none⟩ = some (.int .i64 v.int) := (by rw [blk_cell m6]; rfl); have y2 : w6.cell? ⟨w2.heap.size + 1, 2, none⟩ = some (.string v.text) := (by rw [blk_cell m6]; rfl); have y3 : w6.cell? ⟨w2.heap.size + 1, 3, none⟩ = some (.slice pv.a pv.n pv.c) := (by rw [blk_cell m6]; rfl); have y4 : w6.cell? ⟨w2.heap.size + 1, 4, none⟩ = some (.slice qv.a qv.n qv.c) := (by rw [blk_cell m6]; rfl); have H6 := Lib.hid (And.intro hown6 (And.intro hkeep6 (And.intro hgrow6 hat6))); clear hown6 hkeep6 hgrow6 hat6 m6))
            go_meet
            exact ⟨addL v v, ⟨some ⟨g', 0, none⟩, v.list.length + 1, cap'⟩, qv, Lib.hid ⟨⟨smallL HF.out.1.1 HF.out.1.1, by rw [countL]; have := HC2.out; omega⟩, HB.out.appL (p' := ⟨some ⟨g', 0, none⟩, v.list.length + 1, cap'⟩) HM.out H6.out.2.2.1 H6.out.2.2.2 H6.out.2.1 H6.out.1⟩⟩
          · have hm4 : (m == 4) = false := by simpa using hm
            clear hm
            by_cases hm : m = 5
            · have hmb : (m == 5) = true := by simp [hm]
              clear hm
              obtain ⟨i0', hi0, hz0, hz1, hz2⟩ := info_of info_F
              have hrow : wz.ownsRow 0 31 6 (.slice qv.a qv.n qv.c) v.fields.length zss.flatten := own_keep HM.out.2.1.2.2.1 (fun g e => HB.out.keep g (HM.out.2.1.2.2.1.lt g e).2)
              have hownA := fun o => hrow.alloc o
              have hlen : v.fields.length ≤ 100000 := HL.out.2
              clear hrow
              go_wp2_with (first
                | (at_builtin; go_loud (refine wpList_keep rfl _ _ 25 rfl 0 31 i0' _ 6 96 Tryd.underlying25 hi0 hz0 hz1 hz2 rfl (by decide) _ _ _ rfl (hownA _) ⟨wz.heap.size, 0, none⟩ 2 2 [.string ⟨#[97, 97, 48]⟩, .int .i64 v.kind, .int .i64 v.int, .string v.text, .slice pv.a pv.n pv.c, .slice qv.a qv.n qv.c, .string ⟨#[97, 97, 48]⟩, .int .i64 0, .int .i64 0, .string ⟨#[]⟩, .slice none 0 0, .slice none 0 0] rfl rfl (World.news_of_block (cs := #[.string ⟨#[97, 97, 48]⟩, .int .i64 v.kind, .int .i64 v.int, .string v.text, .slice pv.a pv.n pv.c, .slice qv.a qv.n qv.c, .string ⟨#[97, 97, 48]⟩, .int .i64 0, .int .i64 0, .string ⟨#[]⟩, .slice none 0 0, .slice none 0 0]) (t := 31) (fr := (0, 0)) (block_new wz _)) (by simp [Value.oneCell']) (by unfold maxLen; omega) (by omega) (Nat.zero_le _) ?_); intro v' w6 hown6 hkeep6 hgrow6 hat6; obtain ⟨g', cap', rfl, _, _⟩ := hown6.form (by omega); have m6 := (hgrow6.block (w2.heap.size + 1) (by rw [size_alloc]; omega) (fun e => by have := (HM.out.2.1.2.2.1.lt _ e.symm).2; omega)).trans ((block_old lw).trans HB.out.bw); have fr6 := blk_frozen m6 4; have l6 := (Array.getElem?_eq_some_iff.1 m6).1; have y0 : w6.cell? ⟨w2.heap.size + 1, 0, none⟩ = some (.int .i64 v.kind) := (by rw [blk_cell m6]; rfl); have y1 : w6.cell? ⟨w2.heap.size + 1, 1, none⟩ = some (.int .i64 v.int) := (by rw [blk_cell m6]; rfl); have y2 : w6.cell? ⟨w2.heap.size + 1, 2, none⟩ = some (.string v.text) := (by rw [blk_cell m6]; rfl); have y3 : w6.cell? ⟨w2.heap.size + 1, 3, none⟩ = some (.slice pv.a pv.n pv.c) := (by rw [blk_cell m6]; rfl); have y4 : w6.cell? ⟨w2.heap.size + 1, 4, none⟩ = some (.slice qv.a qv.n qv.c) := (by rw [blk_cell m6]; rfl); have H6 := Lib.hid (And.intro hown6 (And.intro hkeep6 (And.intro hgrow6 hat6))); clear hown6 hkeep6 hgrow6 hat6 m6))
              go_meet
              exact ⟨addF (addF v ⟨#[97, 97, 48]⟩ v) ⟨#[97, 97, 48]⟩ nilV, pv, ⟨some ⟨g', 0, none⟩, v.fields.length + 2, cap'⟩, Lib.hid ⟨⟨smallF (smallF HF.out.1.1 (by decide) HF.out.1.1) (by decide) (by decide +kernel), by rw [countF, countF]; have h1 := HC2.out; have h2 : countV nilV = 1 := (by decide +kernel); omega⟩, HB.out.appG (q' := ⟨some ⟨g', 0, none⟩, v.fields.length + 2, cap'⟩) (px := pv) (qx := qv) (py := ⟨none, 0, 0⟩) (qy := ⟨none, 0, 0⟩) HM.out H6.out.2.2.1 H6.out.2.2.2 (fun _ h => h) (fun _ => nilV_lies _ _) H6.out.2.1 H6.out.1⟩⟩
            · have hm5 : (m == 5) = false := by simpa using hm
              clear hm
              by_cases hm : m = 6
              · have hmb : (m == 6) = true := by simp [hm]
                clear hm
                obtain ⟨i0', hi0, hz0, hz1, hz2⟩ := info_of info_F
                have hrow : wz.ownsRow 0 31 6 (.slice qv.a qv.n qv.c) v.fields.length zss.flatten := own_keep HM.out.2.1.2.2.1 (fun g e => HB.out.keep g (HM.out.2.1.2.2.1.lt g e).2)
                have hownA := fun o => hrow.alloc o
                have hlen : v.fields.length ≤ 100000 := HL.out.2
                clear hrow
                go_wp2_with (first
                  | (at_builtin; go_loud (refine wpList_keep rfl _ _ 25 rfl 0 31 i0' _ 6 96 Tryd.underlying25 hi0 hz0 hz1 hz2 rfl (by decide) _ _ _ rfl (hownA _) ⟨wz.heap.size, 0, none⟩ 1 1 [.string ⟨#[255]⟩, .int .i64 0, .int .i64 0, .string ⟨#[]⟩, .slice none 0 0, .slice none 0 0] rfl rfl (World.news_of_block (cs := #[.string ⟨#[255]⟩, .int .i64 0, .int .i64 0, .string ⟨#[]⟩, .slice none 0 0, .slice none 0 0]) (t := 31) (fr := (0, 0)) (block_new wz _)) (by simp [Value.oneCell']) (by unfold maxLen; omega) (by omega) (Nat.zero_le _) ?_); intro v' w6 hown6 hkeep6 hgrow6 hat6; obtain ⟨g', cap', rfl, _, _⟩ := hown6.form (by omega); have m6 := (hgrow6.block (w2.heap.size + 1) (by rw [size_alloc]; omega) (fun e => by have := (HM.out.2.1.2.2.1.lt _ e.symm).2; omega)).trans ((block_old lw).trans HB.out.bw); have fr6 := blk_frozen m6 4; have l6 := (Array.getElem?_eq_some_iff.1 m6).1; have y0 : w6.cell? ⟨w2.heap.size + 1, 0, none⟩ = some (.int .i64 v.kind) := (by rw [blk_cell m6]; rfl); have y1 : w6.cell? ⟨w2.heap.size + 1, 1, none⟩ = some (.int .i64 v.int) := (by rw [blk_cell m6]; rfl); have y2 : w6.cell? ⟨w2.heap.size + 1, 2, none⟩ = some (.string v.text) := (by rw [blk_cell m6]; rfl); have y3 : w6.cell? ⟨w2.heap.size + 1, 3, none⟩ = some (.slice pv.a pv.n pv.c) := (by rw [blk_cell m6]; rfl); have y4 : w6.cell? ⟨w2.heap.size + 1, 4, none⟩ = some (.slice qv.a qv.n qv.c) := (by rw [blk_cell m6]; rfl); have H6 := Lib.hid (And.intro hown6 (And.intro hkeep6 (And.intro hgrow6 hat6))); clear hown6 hkeep6 hgrow6 hat6 m6))
                go_meet
                exact ⟨addF v ⟨#[255]⟩ nilV, pv, ⟨some ⟨g', 0, none⟩, v.fields.length + 1, cap'⟩, Lib.hid ⟨⟨smallF HF.out.1.1 (by decide) (by decide +kernel), by rw [countF]; have h1 := HC2.out; have h2 : countV nilV = 1 := (by decide +kernel); omega⟩, HB.out.appF (q' := ⟨some ⟨g', 0, none⟩, v.fields.length + 1, cap'⟩) (px := ⟨none, 0, 0⟩) (qx := ⟨none, 0, 0⟩) HM.out H6.out.2.2.1 H6.out.2.2.2 (fun _ _ => nilV_lies _ _) H6.out.2.1 H6.out.1⟩⟩
              · have hm6 : (m == 6) = false := by simpa using hm
                clear hm
                go_wp2_with fail
                go_meet
                exact ⟨v, pv, qv, Lib.hid ⟨HF.out.1, HB.out.low, HB.out.bv, HB.out.bw, HF.out.2.map (fun k hk _ => ⟨by have := HB.out.size; omega, HB.out.keep k hk⟩), HF.out.2.map (fun k hk _ => ⟨by have := HB.out.size; omega, HB.out.keep k hk⟩)⟩⟩
  case rest =>
  obtain ⟨u, pu, qu, HC⟩ := hcut
  obtain ⟨wa, rfl⟩ : ∃ w', w' = wc := ⟨wc, rfl⟩
  have HK := Lib.hid HC.out.1
  have HA := Lib.hid HC.out.2
  clear HC HB HF HM HL HC2 lw lv
  have v0 : wa.cell? ⟨w2.heap.size, 0, none⟩ = some (.int .i64 v.kind) := by rw [blk_cell HA.out.2.1]; rfl
  have v1 : wa.cell? ⟨w2.heap.size, 1, none⟩ = some (.int .i64 v.int) := by rw [blk_cell HA.out.2.1]; rfl
  have v2 : wa.cell? ⟨w2.heap.size, 2, none⟩ = some (.string v.text) := by rw [blk_cell HA.out.2.1]; rfl
  have v3 : wa.cell? ⟨w2.heap.size, 3, none⟩ = some (.slice pv.a pv.n pv.c) := by rw [blk_cell HA.out.2.1]; rfl
  have v4 : wa.cell? ⟨w2.heap.size, 4, none⟩ = some (.slice qv.a qv.n qv.c) := by rw [blk_cell HA.out.2.1]; rfl
  have lva := (Array.getElem?_eq_some_iff.1 HA.out.2.1).1
  go_wp2_with fail
  go_cut [8] from 53 to 57 (fun s wc => s = .bool true ∧ Hid (St W wc w2.heap.size (w2.heap.size + 1) v u pv qv pu qu))
  case first =>
    have HD17 := Lib.hid (show St W wa.drew w2.heap.size (w2.heap.size + 1) v u pv qv pu qu from ⟨HA.out.1.drew, HA.out.2⟩)
    have HP17 := Lib.hid (fun (w : World) (hs : St W w w2.heap.size (w2.heap.size + 1) v u pv qv pu qu) => (show (Calls Tryd.prog 9 #[.agg #[.int .i64 v.kind, .int .i64 v.int, .string v.text, .slice pv.a pv.n pv.c, .slice qv.a qv.n qv.c]] w (fun e w' => ∃ sl : Sl, e = .returned (.slice sl.a sl.n sl.c) ∧ RowAt w' sl (rowV v 0 ⟨#[]⟩) ∧ Below w.heap.size w w')) ∧ (Calls Tryd.prog 10 #[.agg #[.int .i64 v.kind, .int .i64 v.int, .string v.text, .slice pv.a pv.n pv.c, .slice qv.a qv.n qv.c]] w (fun e w' => ∃ sl : Sl, e = .returned (.slice sl.a sl.n sl.c) ∧ RowAt w' sl (rowV v 0 ⟨#[]⟩) ∧ Below w.heap.size w w')) from
      ⟨(Row_any v (by have := HN.out.1; omega) (by have := HN.out.2.1; omega) _ w pv qv (fun g hg => hg) hs.2.2.2.1).mono (fun e w' ⟨sl, he, ho, hb⟩ => ⟨sl, he, RowAt.of_own ho, hb⟩),
       (rRow_any v (by have := HN.out.1; omega) (by have := HN.out.2.1; omega) _ w pv qv (fun g hg => hg) hs.2.2.2.1).mono (fun e w' ⟨sl, he, ho, hb⟩ => ⟨sl, he, RowAt.of_own ho, hb⟩)⟩))
    go_region_law ((go_simp; go_wp2_with (first
      | (go_at_call 9; (with_reducible show Calls Tryd.prog 9 #[.agg #[.int .i64 v.kind, .int .i64 v.int, .string v.text, .slice pv.a pv.n pv.c, .slice qv.a qv.n qv.c]] (World.drew _) _); refine ((HP17.out _ HD17.out).1).mono ?_; rintro e w17 ⟨sa17, rfl, hu17, hb17⟩; have hs17 := HD17.out.later hb17; have v0 : w17.cell? ⟨w2.heap.size, 0, none⟩ = some (.int .i64 v.kind) := (by rw [blk_cell hs17.2.1]; rfl); have v1 : w17.cell? ⟨w2.heap.size, 1, none⟩ = some (.int .i64 v.int) := (by rw [blk_cell hs17.2.1]; rfl); have v2 : w17.cell? ⟨w2.heap.size, 2, none⟩ = some (.string v.text) := (by rw [blk_cell hs17.2.1]; rfl); have v3 : w17.cell? ⟨w2.heap.size, 3, none⟩ = some (.slice pv.a pv.n pv.c) := (by rw [blk_cell hs17.2.1]; rfl); have v4 : w17.cell? ⟨w2.heap.size, 4, none⟩ = some (.slice qv.a qv.n qv.c) := (by rw [blk_cell hs17.2.1]; rfl); have lv17 := (Array.getElem?_eq_some_iff.1 hs17.2.1).1; have H17 := Lib.hid (And.intro hs17 hu17); clear hs17 hu17 hb17)
      | (go_at_call 10; (with_reducible show Calls Tryd.prog 10 #[.agg #[.int .i64 v.kind, .int .i64 v.int, .string v.text, .slice pv.a pv.n pv.c, .slice qv.a qv.n qv.c]] (World.drew _) _); refine ((HP17.out _ HD17.out).2).mono ?_; rintro e w17 ⟨sr17, rfl, hu17, hb17⟩; have hs17 := HD17.out.later hb17; have v0 : w17.cell? ⟨w2.heap.size, 0, none⟩ = some (.int .i64 v.kind) := (by rw [blk_cell hs17.2.1]; rfl); have v1 : w17.cell? ⟨w2.heap.size, 1, none⟩ = some (.int .i64 v.int) := (by rw [blk_cell hs17.2.1]; rfl); have v2 : w17.cell? ⟨w2.heap.size, 2, none⟩ = some (.string v.text) := (by rw [blk_cell hs17.2.1]; rfl); have v3 : w17.cell? ⟨w2.heap.size, 3, none⟩ = some (.slice pv.a pv.n pv.c) := (by rw [blk_cell hs17.2.1]; rfl); have v4 : w17.cell? ⟨w2.heap.size, 4, none⟩ = some (.slice qv.a qv.n qv.c) := (by rw [blk_cell hs17.2.1]; rfl); have lv17 := (Array.getElem?_eq_some_iff.1 hs17.2.1).1; have H17 := Lib.hid (And.intro hs17 hu17); clear hs17 hu17 hb17)
      | (go_at_call 9; (with_reducible show Calls Tryd.prog 9 #[.agg #[.int .i64 v.kind, .int .i64 v.int, .string v.text, .slice pv.a pv.n pv.c, .slice qv.a qv.n qv.c]] w17 _); refine ((HP17.out _ H17.out.1).1).mono ?_; rintro e w18 ⟨sa17, rfl, hu18, hb18⟩; have hs18 := H17.out.1.later hb18; have H18 := Lib.hid (And.intro hs18 (And.intro hu18 hb18)); clear hs18 hu18 hb18)
      | (go_at_call 10; (with_reducible show Calls Tryd.prog 10 #[.agg #[.int .i64 v.kind, .int .i64 v.int, .string v.text, .slice pv.a pv.n pv.c, .slice qv.a qv.n qv.c]] w17 _); refine ((HP17.out _ H17.out.1).2).mono ?_; rintro e w18 ⟨sr17, rfl, hu18, hb18⟩; have hs18 := H17.out.1.later hb18; have H18 := Lib.hid (And.intro hs18 (And.intro hu18 hb18)); clear hs18 hu18 hb18)
      | (go_at_call 8; refine (SameItems_any (rowV v 0 ⟨#[]⟩) (rowV v 0 ⟨#[]⟩) HN.out.2.2 HN.out.2.2 sa17 sr17 w18 (H17.out.2.later H18.out.2.2) H18.out.2.1).mono ?_; rintro e w19 ⟨⟨z, rfl, hz⟩, hb19⟩; obtain rfl : z = true := (by simpa using hz); have hs19 := H18.out.1.later hb19; have H19 := Lib.hid hs19; clear hs19 hb19 hz)
      | (go_at_call 8; refine (SameItems_any (rowV v 0 ⟨#[]⟩) (rowV v 0 ⟨#[]⟩) HN.out.2.2 HN.out.2.2 sa17 sr17 w18 H18.out.2.1 (H17.out.2.later H18.out.2.2)).mono ?_; rintro e w19 ⟨⟨z, rfl, hz⟩, hb19⟩; obtain rfl : z = true := (by simpa using hz); have hs19 := H18.out.1.later hb19; have H19 := Lib.hid hs19; clear hs19 hb19 hz))))
    all_goals
      go_wp2_with fail
      go_meet
      exact ⟨rfl, H19.out⟩
  case rest =>
  obtain ⟨rfl, HE⟩ := hcut
  obtain ⟨wb, rfl⟩ : ∃ w', w' = wc := ⟨wc, rfl⟩
  clear v0 v1 v2 v3 v4 lva
  have v0 : wb.cell? ⟨w2.heap.size, 0, none⟩ = some (.int .i64 v.kind) := by rw [blk_cell HE.out.2.1]; rfl
  have v1 : wb.cell? ⟨w2.heap.size, 1, none⟩ = some (.int .i64 v.int) := by rw [blk_cell HE.out.2.1]; rfl
  have v2 : wb.cell? ⟨w2.heap.size, 2, none⟩ = some (.string v.text) := by rw [blk_cell HE.out.2.1]; rfl
  have v3 : wb.cell? ⟨w2.heap.size, 3, none⟩ = some (.slice pv.a pv.n pv.c) := by rw [blk_cell HE.out.2.1]; rfl
  have v4 : wb.cell? ⟨w2.heap.size, 4, none⟩ = some (.slice qv.a qv.n qv.c) := by rw [blk_cell HE.out.2.1]; rfl
  have lvb := (Array.getElem?_eq_some_iff.1 HE.out.2.1).1
  go_wp2_with fail
  go_cut [9] from 58 to 62 (fun s wc => s = .bool true ∧ Hid (St W wc w2.heap.size (w2.heap.size + 1) v u pv qv pu qu))
  case first =>
    have HD27 := Lib.hid (show St W wb.drew w2.heap.size (w2.heap.size + 1) v u pv qv pu qu from ⟨HE.out.1.drew, HE.out.2⟩)
    have HU27 := Lib.hid (show (canonV v).kind = v.kind ∧ (canonV v).int = v.int ∧ (canonV v).text = v.text from ⟨(canon_parts v).1, (canon_parts v).2.1, (canon_parts v).2.2.1⟩)
    have HP27 := Lib.hid (fun (w : World) (hs : St W w w2.heap.size (w2.heap.size + 1) v u pv qv pu qu) => (show (Calls Tryd.prog 12 #[.agg #[.int .i64 v.kind, .int .i64 v.int, .string v.text, .slice pv.a pv.n pv.c, .slice qv.a qv.n qv.c]] w (fun e w' => ∃ p q : Sl, e = .returned (.agg #[.int .i64 v.kind, .int .i64 v.int, .string v.text, .slice p.a p.n p.c, .slice q.a q.n q.c]) ∧ HV (fun g => g < w'.heap.size) w' (canonV v) p q ∧ Below w.heap.size w w')) ∧ (Calls Tryd.prog 13 #[.agg #[.int .i64 v.kind, .int .i64 v.int, .string v.text, .slice pv.a pv.n pv.c, .slice qv.a qv.n qv.c]] w (fun e w' => ∃ p q : Sl, e = .returned (.agg #[.int .i64 v.kind, .int .i64 v.int, .string v.text, .slice p.a p.n p.c, .slice q.a q.n q.c]) ∧ HV (fun g => g < w'.heap.size) w' (canonV v) p q ∧ Below w.heap.size w w')) from
      ⟨(Canon_any v HO.out _ w pv qv (fun g hg => hg) hs.2.2.2.1).mono (fun e w' ⟨p, q, he, hB, hb⟩ => ⟨p, q, he, hB.hv.map (fun k _ hl => ⟨hl, rfl⟩), hb⟩),
       (rCanon_any v HO.out _ w pv qv (fun g hg => hg) hs.2.2.2.1).mono (fun e w' ⟨p, q, he, hB, hb⟩ => ⟨p, q, he, hB.map (fun k _ hl => ⟨hl, rfl⟩), hb⟩)⟩))
    go_region_law ((go_simp; go_wp2_with (first
      | (go_at_call 12; (with_reducible show Calls Tryd.prog 12 #[.agg #[.int .i64 v.kind, .int .i64 v.int, .string v.text, .slice pv.a pv.n pv.c, .slice qv.a qv.n qv.c]] (World.drew _) _); refine ((HP27.out _ HD27.out).1).mono ?_; rintro e w27 ⟨ap27, aq27, rfl, hu27, hb27⟩; have hs27 := HD27.out.later hb27; have v0 : w27.cell? ⟨w2.heap.size, 0, none⟩ = some (.int .i64 v.kind) := (by rw [blk_cell hs27.2.1]; rfl); have v1 : w27.cell? ⟨w2.heap.size, 1, none⟩ = some (.int .i64 v.int) := (by rw [blk_cell hs27.2.1]; rfl); have v2 : w27.cell? ⟨w2.heap.size, 2, none⟩ = some (.string v.text) := (by rw [blk_cell hs27.2.1]; rfl); have v3 : w27.cell? ⟨w2.heap.size, 3, none⟩ = some (.slice pv.a pv.n pv.c) := (by rw [blk_cell hs27.2.1]; rfl); have v4 : w27.cell? ⟨w2.heap.size, 4, none⟩ = some (.slice qv.a qv.n qv.c) := (by rw [blk_cell hs27.2.1]; rfl); have lv27 := (Array.getElem?_eq_some_iff.1 hs27.2.1).1; have H27 := Lib.hid (And.intro hs27 hu27); clear hs27 hu27 hb27)
      | (go_at_call 13; (with_reducible show Calls Tryd.prog 13 #[.agg #[.int .i64 v.kind, .int .i64 v.int, .string v.text, .slice pv.a pv.n pv.c, .slice qv.a qv.n qv.c]] (World.drew _) _); refine ((HP27.out _ HD27.out).2).mono ?_; rintro e w27 ⟨rp27, rq27, rfl, hu27, hb27⟩; have hs27 := HD27.out.later hb27; have v0 : w27.cell? ⟨w2.heap.size, 0, none⟩ = some (.int .i64 v.kind) := (by rw [blk_cell hs27.2.1]; rfl); have v1 : w27.cell? ⟨w2.heap.size, 1, none⟩ = some (.int .i64 v.int) := (by rw [blk_cell hs27.2.1]; rfl); have v2 : w27.cell? ⟨w2.heap.size, 2, none⟩ = some (.string v.text) := (by rw [blk_cell hs27.2.1]; rfl); have v3 : w27.cell? ⟨w2.heap.size, 3, none⟩ = some (.slice pv.a pv.n pv.c) := (by rw [blk_cell hs27.2.1]; rfl); have v4 : w27.cell? ⟨w2.heap.size, 4, none⟩ = some (.slice qv.a qv.n qv.c) := (by rw [blk_cell hs27.2.1]; rfl); have lv27 := (Array.getElem?_eq_some_iff.1 hs27.2.1).1; have H27 := Lib.hid (And.intro hs27 hu27); clear hs27 hu27 hb27)
      | (go_at_call 12; (with_reducible show Calls Tryd.prog 12 #[.agg #[.int .i64 v.kind, .int .i64 v.int, .string v.text, .slice pv.a pv.n pv.c, .slice qv.a qv.n qv.c]] w27 _); refine ((HP27.out _ H27.out.1).1).mono ?_; rintro e w28 ⟨ap27, aq27, rfl, hu28, hb28⟩; have hs28 := H27.out.1.later hb28; have H28 := Lib.hid (And.intro hs28 (And.intro hu28 hb28)); clear hs28 hu28 hb28)
      | (go_at_call 13; (with_reducible show Calls Tryd.prog 13 #[.agg #[.int .i64 v.kind, .int .i64 v.int, .string v.text, .slice pv.a pv.n pv.c, .slice qv.a qv.n qv.c]] w27 _); refine ((HP27.out _ H27.out.1).2).mono ?_; rintro e w28 ⟨rp27, rq27, rfl, hu28, hb28⟩; have hs28 := H27.out.1.later hb28; have H28 := Lib.hid (And.intro hs28 (And.intro hu28 hb28)); clear hs28 hu28 hb28)
      | (go_at_call 11; have hs := Equal_any (canonV v) (canonV v) (fun g => g < w28.heap.size) w28 ap27 aq27 rp27 rq27 (fun g hg => hg) (H27.out.2.map (fun k _ hl => ⟨Nat.lt_of_lt_of_le hl H28.out.2.2.size, H28.out.2.2.block k hl⟩)) (H28.out.2.1); rw [HU27.out.1, HU27.out.2.1, HU27.out.2.2] at hs; refine hs.mono ?_; rintro e w29 ⟨⟨z, rfl, hz⟩, hb29⟩; obtain rfl : z = true := (by simpa using hz); have hs29 := H28.out.1.later hb29; have H29 := Lib.hid hs29; clear hs29 hb29 hz hs)
      | (go_at_call 11; have hs := Equal_any (canonV v) (canonV v) (fun g => g < w28.heap.size) w28 ap27 aq27 rp27 rq27 (fun g hg => hg) (H28.out.2.1) (H27.out.2.map (fun k _ hl => ⟨Nat.lt_of_lt_of_le hl H28.out.2.2.size, H28.out.2.2.block k hl⟩)); rw [HU27.out.1, HU27.out.2.1, HU27.out.2.2] at hs; refine hs.mono ?_; rintro e w29 ⟨⟨z, rfl, hz⟩, hb29⟩; obtain rfl : z = true := (by simpa using hz); have hs29 := H28.out.1.later hb29; have H29 := Lib.hid hs29; clear hs29 hb29 hz hs))))
    all_goals
      go_wp2_with fail
      go_meet
      exact ⟨rfl, H29.out⟩
  case rest =>
  obtain ⟨rfl, HG⟩ := hcut
  obtain ⟨wd, rfl⟩ : ∃ w', w' = wc := ⟨wc, rfl⟩
  clear v0 v1 v2 v3 v4 lvb
  have cV0 := cell_below (a := ⟨w2.heap.size, 0, none⟩) (v := .int .i64 v.kind) (Array.getElem?_eq_some_iff.1 HG.out.2.1).1 (by rw [blk_cell HG.out.2.1]; rfl)
  have cV1 := cell_below (a := ⟨w2.heap.size, 1, none⟩) (v := .int .i64 v.int) (Array.getElem?_eq_some_iff.1 HG.out.2.1).1 (by rw [blk_cell HG.out.2.1]; rfl)
  have cV2 := cell_below (a := ⟨w2.heap.size, 2, none⟩) (v := .string v.text) (Array.getElem?_eq_some_iff.1 HG.out.2.1).1 (by rw [blk_cell HG.out.2.1]; rfl)
  have cV3 := cell_below (a := ⟨w2.heap.size, 3, none⟩) (v := .slice pv.a pv.n pv.c) (Array.getElem?_eq_some_iff.1 HG.out.2.1).1 (by rw [blk_cell HG.out.2.1]; rfl)
  have cV4 := cell_below (a := ⟨w2.heap.size, 4, none⟩) (v := .slice qv.a qv.n qv.c) (Array.getElem?_eq_some_iff.1 HG.out.2.1).1 (by rw [blk_cell HG.out.2.1]; rfl)
  have cU0 := cell_below (a := ⟨w2.heap.size + 1, 0, none⟩) (v := .int .i64 u.kind) (Array.getElem?_eq_some_iff.1 HG.out.2.2.1).1 (by rw [blk_cell HG.out.2.2.1]; rfl)
  have cU1 := cell_below (a := ⟨w2.heap.size + 1, 1, none⟩) (v := .int .i64 u.int) (Array.getElem?_eq_some_iff.1 HG.out.2.2.1).1 (by rw [blk_cell HG.out.2.2.1]; rfl)
  have cU2 := cell_below (a := ⟨w2.heap.size + 1, 2, none⟩) (v := .string u.text) (Array.getElem?_eq_some_iff.1 HG.out.2.2.1).1 (by rw [blk_cell HG.out.2.2.1]; rfl)
  have cU3 := cell_below (a := ⟨w2.heap.size + 1, 3, none⟩) (v := .slice pu.a pu.n pu.c) (Array.getElem?_eq_some_iff.1 HG.out.2.2.1).1 (by rw [blk_cell HG.out.2.2.1]; rfl)
  have cU4 := cell_below (a := ⟨w2.heap.size + 1, 4, none⟩) (v := .slice qu.a qu.n qu.c) (Array.getElem?_eq_some_iff.1 HG.out.2.2.1).1 (by rw [blk_cell HG.out.2.2.1]; rfl)
  have hu := HG.out.2.2.2.2
  have hv := HG.out.2.2.2.1
  have hT : utf.Tab wd := HT.out.self HG.out.1
  have hq0 : ∀ W1, Below wd.heap.size wd W1 → Calls Tryd.prog 14 #[.agg #[.int .i64 u.kind, .int .i64 u.int, .string u.text, .slice pu.a pu.n pu.c, .slice qu.a qu.n qu.c]] W1 fun e w' => e = .returned (.bool (checkR u)) ∧ Below W1.heap.size W1 w' := fun W1 hw => (by rw [← checkW_eq u (by have := HK.out.2; omega)]; exact Check_any u HK.out.1 (by have := depth_count u; have := HK.out.2; omega) _ W1 pu qu (fun g hg => Nat.lt_of_lt_of_le hg hw.size) (hu.later hw) (hT.self hw))
  have HQ0 := Lib.hid hq0
  clear hq0
  have hq1 : ∀ W1, Below wd.heap.size wd W1 → Calls Tryd.prog 15 #[.agg #[.int .i64 u.kind, .int .i64 u.int, .string u.text, .slice pu.a pu.n pu.c, .slice qu.a qu.n qu.c]] W1 fun e w' => e = .returned (.bool (checkR u)) ∧ Below W1.heap.size W1 w' := fun W1 hw => (rCheck_any u HK.out.1 (by have := HK.out.2; omega) _ W1 pu qu (fun g hg => Nat.lt_of_lt_of_le hg hw.size) (hu.later hw))
  have HQ1 := Lib.hid hq1
  clear hq1
  have hq2 : ∀ W1, Below wd.heap.size wd W1 → Calls Tryd.prog 16 #[.agg #[.int .i64 u.kind, .int .i64 u.int, .string u.text, .slice pu.a pu.n pu.c, .slice qu.a qu.n qu.c]] W1 fun e w' => e = .returned (.int .i64 (depthV u)) ∧ Below W1.heap.size W1 w' := fun W1 hw => (Depth_any u (by have := depth_count u; have := HK.out.2; omega) _ W1 pu qu (fun g hg => Nat.lt_of_lt_of_le hg hw.size) (hu.later hw))
  have HQ2 := Lib.hid hq2
  clear hq2
  have hq3 : ∀ W1, Below wd.heap.size wd W1 → Calls Tryd.prog 17 #[.agg #[.int .i64 u.kind, .int .i64 u.int, .string u.text, .slice pu.a pu.n pu.c, .slice qu.a qu.n qu.c]] W1 fun e w' => e = .returned (.int .i64 (depthV u)) ∧ Below W1.heap.size W1 w' := fun W1 hw => (rDepth_any u _ W1 pu qu (fun g hg => Nat.lt_of_lt_of_le hg hw.size) (hu.later hw) (by have := depth_count u; have := HK.out.2; omega))
  have HQ3 := Lib.hid hq3
  clear hq3
  have hq4 : ∀ W1, Below wd.heap.size wd W1 → Calls Tryd.prog 18 #[.agg #[.int .i64 u.kind, .int .i64 u.int, .string u.text, .slice pu.a pu.n pu.c, .slice qu.a qu.n qu.c]] W1 fun e w' => e = .returned (.int .i64 (countV u)) ∧ Below W1.heap.size W1 w' := fun W1 hw => (Count_any u (by have := depth_count u; have := HK.out.2; omega) (by have := HK.out.2; omega) _ W1 pu qu (fun g hg => Nat.lt_of_lt_of_le hg hw.size) (hu.later hw))
  have HQ4 := Lib.hid hq4
  clear hq4
  have hq5 : ∀ W1, Below wd.heap.size wd W1 → Calls Tryd.prog 19 #[.agg #[.int .i64 u.kind, .int .i64 u.int, .string u.text, .slice pu.a pu.n pu.c, .slice qu.a qu.n qu.c]] W1 fun e w' => e = .returned (.int .i64 (countV u)) ∧ Below W1.heap.size W1 w' := fun W1 hw => (rCount_any u _ W1 pu qu (fun g hg => Nat.lt_of_lt_of_le hg hw.size) (hu.later hw) (by have := HK.out.2; omega))
  have HQ5 := Lib.hid hq5
  clear hq5
  have hq6 : ∀ W1, Below wd.heap.size wd W1 → Calls Tryd.prog 14 #[.agg #[.int .i64 v.kind, .int .i64 v.int, .string v.text, .slice pv.a pv.n pv.c, .slice qv.a qv.n qv.c]] W1 fun e w' => e = .returned (.bool (checkR v)) ∧ Below W1.heap.size W1 w' := fun W1 hw => (by rw [← checkW_eq v (by have := HN.out.1; omega)]; exact Check_any v HS.out (by have := HN.out.2.1; omega) _ W1 pv qv (fun g hg => Nat.lt_of_lt_of_le hg hw.size) (hv.later hw) (hT.self hw))
  have HQ6 := Lib.hid hq6
  clear hq6
  have hq7 : ∀ W1, Below wd.heap.size wd W1 → Calls Tryd.prog 15 #[.agg #[.int .i64 v.kind, .int .i64 v.int, .string v.text, .slice pv.a pv.n pv.c, .slice qv.a qv.n qv.c]] W1 fun e w' => e = .returned (.bool (checkR v)) ∧ Below W1.heap.size W1 w' := fun W1 hw => (rCheck_any v HS.out (by have := HN.out.1; omega) _ W1 pv qv (fun g hg => Nat.lt_of_lt_of_le hg hw.size) (hv.later hw))
  have HQ7 := Lib.hid hq7
  clear hq7
  have mixed := mixed
  clear hu hv hT
  go_wp2_with fail
  refine wp_region_quiet_below (by assumption) (by kernel_rfl) ?_
  repeat (quiet_step (first
    | (go_at_call 14; (with_reducible show Calls Tryd.prog 14 #[.agg #[.int .i64 u.kind, .int .i64 u.int, .string u.text, .slice pu.a pu.n pu.c, .slice qu.a qu.n qu.c]] _ _); exact calls_below (HQ0.out _ (below_of_grown _ _)))
    | (go_at_call 15; (with_reducible show Calls Tryd.prog 15 #[.agg #[.int .i64 u.kind, .int .i64 u.int, .string u.text, .slice pu.a pu.n pu.c, .slice qu.a qu.n qu.c]] _ _); exact calls_below (HQ1.out _ (below_of_grown _ _)))
    | (go_at_call 16; (with_reducible show Calls Tryd.prog 16 #[.agg #[.int .i64 u.kind, .int .i64 u.int, .string u.text, .slice pu.a pu.n pu.c, .slice qu.a qu.n qu.c]] _ _); exact calls_below (HQ2.out _ (below_of_grown _ _)))
    | (go_at_call 17; (with_reducible show Calls Tryd.prog 17 #[.agg #[.int .i64 u.kind, .int .i64 u.int, .string u.text, .slice pu.a pu.n pu.c, .slice qu.a qu.n qu.c]] _ _); exact calls_below (HQ3.out _ (below_of_grown _ _)))
    | (go_at_call 18; (with_reducible show Calls Tryd.prog 18 #[.agg #[.int .i64 u.kind, .int .i64 u.int, .string u.text, .slice pu.a pu.n pu.c, .slice qu.a qu.n qu.c]] _ _); exact calls_below (HQ4.out _ (below_of_grown _ _)))
    | (go_at_call 19; (with_reducible show Calls Tryd.prog 19 #[.agg #[.int .i64 u.kind, .int .i64 u.int, .string u.text, .slice pu.a pu.n pu.c, .slice qu.a qu.n qu.c]] _ _); exact calls_below (HQ5.out _ (below_of_grown _ _)))
    | (go_at_call 14; (with_reducible show Calls Tryd.prog 14 #[.agg #[.int .i64 v.kind, .int .i64 v.int, .string v.text, .slice pv.a pv.n pv.c, .slice qv.a qv.n qv.c]] _ _); exact calls_below (HQ6.out _ (below_of_grown _ _)))
    | (go_at_call 15; (with_reducible show Calls Tryd.prog 15 #[.agg #[.int .i64 v.kind, .int .i64 v.int, .string v.text, .slice pv.a pv.n pv.c, .slice qv.a qv.n qv.c]] _ _); exact calls_below (HQ7.out _ (below_of_grown _ _)))))
  refine wpQuiet_nil ?_
  intro _ hw'
  obtain ⟨⟨nq, osq⟩, hw''⟩ := hw'
  subst hw''
  go_wp2_with fail
  go_ret
  exact ⟨by simp, HG.out.1.trans ((below_of_grown nq osq).mono HG.out.1.size)⟩
end Go.Proofs.YteocenjneoclbaaDoor.tre
