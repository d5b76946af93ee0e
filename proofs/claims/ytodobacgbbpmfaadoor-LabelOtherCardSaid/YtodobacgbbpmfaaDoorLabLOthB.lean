/- Layer 7: the law LabelOther, where there are eight values at most. -/
import Derived.Test.YtodobacgbbpmfaaDoorLabAwake
import Derived.Test.YtodobacgbbpmfaaDoorRepK
namespace Go.Proofs.YtodobacgbbpmfaaDoor.lab
open Go.RowKit Go.Proofs.YtodobacgbbpmfaaDoor.rep

set_option maxRecDepth 100000 in
set_option maxHeartbeats 8000000 in
theorem lawOtherB (B : Nat) (hB : B ≤ 140737488355328) (hB2 : 100 ≤ B) (x : Wt) (u : Value) (ul : Value) (l : List Pr) (more : ByteArray) (w : World) (_h1 : x.key.size ≤ B) (_h2 : x.how.size ≤ B) (hu : RowAt B (text B) w u x.vals) (hr : RowAt B (prR B) w ul l) (hmo : more.size ≤ B) (hm : nam.MaxL w) (hc8 : ¬ 8 < x.vals.length) :
    Calls Tryd.prog 5 #[.agg #[.string x.key, .string x.how, u], ul, .string more] w fun e w' => e = .returned (.bool true) ∧ Below w.heap.size w w' := by
  obtain ⟨i0, hi0, hz0, hz1, hz2⟩ := info_parts info_Tx
  obtain ⟨a, c, rfl, hlc, hcm, hlB, hri⟩ := hr
  obtain ⟨m, hme⟩ : ∃ m, m = (l.take 8).length := ⟨_, rfl⟩
  have hm8 : m ≤ 8 := by rw [hme, List.length_take]; omega
  have hml : m ≤ l.length := by rw [hme, List.length_take]; omega
  have cf := fun w => few_any a c l hlc hcm m hme w
  have hr8 : RowIn (prR B) w a (l.take 8) := hri.take 8
  generalize l.take 8 = l8 at *
  subst hme
  clear hri
  obtain ⟨ua, uc, rfl, huc, hucm, huB, hur⟩ := hu
  obtain ⟨V, hV⟩ : ∃ V, V = x.vals.take 8 := ⟨_, rfl⟩
  have hV8 : V.length ≤ 8 := by rw [hV, List.length_take]; omega
  have hVc : V.length ≤ uc := by rw [hV, List.length_take]; omega
  have hVr : RowIn (text B) w ua V := by rw [hV]; exact hur.take 8
  have hbx := below_new w (.cells #[.string x.key, .string x.how, .slice ua x.vals.length uc] 37)
  have x0 : (w.alloc (.cells #[.string x.key, .string x.how, .slice ua x.vals.length uc] 37)).heap[w.heap.size]? = some (.cells #[.string x.key, .string x.how, .slice ua x.vals.length uc] 37 (0, 0)) := heap_alloc_new _ _
  have hc82 : ¬ (8 : Int) < (x.vals.length : Int) := by omega
  have HM := Lib.hid (show x.vals.length = V.length by rw [hV, List.length_take]; omega)
  clear hV hur
  go_enter Tryd.func5, Tryd.ntmps5
  go_wp2_with fail
  refine (awake_any _ (hm.later hbx)).mono ?_
  rintro e w1 ⟨rfl, hb1⟩
  have b1 := chain hbx hb1
  have x1 := blk_later x0 hb1
  have lw1 := blk_lt x1
  have k0 : w1.cell? ⟨w.heap.size, 0, none⟩ = some (.string x.key) := blk_cell x1 0
  have k1 : w1.cell? ⟨w.heap.size, 1, none⟩ = some (.string x.how) := blk_cell x1 1
  have k2 : w1.cell? ⟨w.heap.size, 2, none⟩ = some (.slice ua x.vals.length uc) := blk_cell x1 2
  have q2 := blk_frozen x1 2
  clear x0 hbx hb1
  go_wp2_with fail
  refine (cf _).mono ?_
  rintro e w2 ⟨rfl, rfl⟩
  obtain ⟨wx, hwx⟩ : ∃ wx, wx = w1 := ⟨_, rfl⟩
  have xs : wx.heap.size = w1.heap.size := by rw [hwx]
  have xx : wx.heap[w.heap.size]? = some (.cells #[.string x.key, .string x.how, .slice ua x.vals.length uc] 37 (0, 0)) := by rw [hwx]; exact x1
  have bx : Below w.heap.size w wx := by rw [hwx]; exact b1
  obtain ⟨wa, hwa⟩ : ∃ v, v = wx.alloc (.cells #[.string x.key, .string inS, .slice ua x.vals.length uc] 37) := ⟨_, rfl⟩
  have s0 : wa.heap.size = w1.heap.size + 1 := by rw [hwa, World.size_alloc, xs]
  have y0 : wa.heap[w1.heap.size]? = some (.cells #[.string x.key, .string inS, .slice ua x.vals.length uc] 37 (0, 0)) := by rw [hwa, ← xs]; exact heap_alloc_new _ _
  have d0 : Below wx.heap.size wx wa := by rw [hwa]; exact below_new _ _
  obtain ⟨wb, hwb⟩ : ∃ v, v = wa.alloc (.cells #[.string x.key, .string notS, .slice ua x.vals.length uc] 37) := ⟨_, rfl⟩
  have s1 : wb.heap.size = w1.heap.size + 1 + 1 := by rw [hwb, World.size_alloc, s0]
  have y1 : wb.heap[w1.heap.size + 1]? = some (.cells #[.string x.key, .string notS, .slice ua x.vals.length uc] 37 (0, 0)) := by rw [hwb, ← s0]; exact heap_alloc_new _ _
  have d1 : Below wa.heap.size wa wb := by rw [hwb]; exact below_new _ _
  obtain ⟨wc, hwc⟩ : ∃ v, v = wb.alloc (.cells #[.string x.key, .string thereS, .slice ua x.vals.length uc] 37) := ⟨_, rfl⟩
  have s2 : wc.heap.size = w1.heap.size + 1 + 1 + 1 := by rw [hwc, World.size_alloc, s1]
  have y2 : wc.heap[w1.heap.size + 1 + 1]? = some (.cells #[.string x.key, .string thereS, .slice ua x.vals.length uc] 37 (0, 0)) := by rw [hwc, ← s1]; exact heap_alloc_new _ _
  have d2 : Below wb.heap.size wb wc := by rw [hwc]; exact below_new _ _
  obtain ⟨wd, hwd⟩ : ∃ v, v = wc.alloc (.cells #[.string x.key, .string goneS, .slice ua x.vals.length uc] 37) := ⟨_, rfl⟩
  have s3 : wd.heap.size = w1.heap.size + 1 + 1 + 1 + 1 := by rw [hwd, World.size_alloc, s2]
  have y3 : wd.heap[w1.heap.size + 1 + 1 + 1]? = some (.cells #[.string x.key, .string goneS, .slice ua x.vals.length uc] 37 (0, 0)) := by rw [hwd, ← s2]; exact heap_alloc_new _ _
  have d3 : Below wc.heap.size wc wd := by rw [hwd]; exact below_new _ _
  obtain ⟨wy, hwy⟩ : ∃ v, v = wd.alloc (.cells #[.string x.key, .string inS, .slice ua x.vals.length uc] 37) := ⟨_, rfl⟩
  have s4 : wy.heap.size = w1.heap.size + 1 + 1 + 1 + 1 + 1 := by rw [hwy, World.size_alloc, s3]
  have y4 : wy.heap[w1.heap.size + 1 + 1 + 1 + 1]? = some (.cells #[.string x.key, .string inS, .slice ua x.vals.length uc] 37 (0, 0)) := by rw [hwy, ← s3]; exact heap_alloc_new _ _
  have d4 : Below wd.heap.size wd wy := by rw [hwy]; exact below_new _ _
  have by_ : Below w.heap.size w wy := chain bx (chain d0 (chain d1 (chain d2 (chain d3 d4))))
  have z3 := blk_later xx (chain d0 (chain d1 (chain d2 (chain d3 d4))))
  have z8 := blk_later y0 (chain d1 (chain d2 (chain d3 d4)))
  have z9 := blk_later y1 (chain d2 (chain d3 d4))
  have z10 := blk_later y2 (chain d3 d4)
  have z11 := blk_later y3 d4
  have z12 := y4
  have Hwy := Lib.hid (show wy = (((((w1.alloc (.cells #[.string x.key, .string inS, .slice ua x.vals.length uc] 37)).alloc (.cells #[.string x.key, .string notS, .slice ua x.vals.length uc] 37)).alloc (.cells #[.string x.key, .string thereS, .slice ua x.vals.length uc] 37)).alloc (.cells #[.string x.key, .string goneS, .slice ua x.vals.length uc] 37)).alloc (.cells #[.string x.key, .string inS, .slice ua x.vals.length uc] 37)) by rw [hwy, hwd, hwc, hwb, hwa, hwx])
  have Sy := Lib.hid s4
  have lwA : w.heap.size < w1.heap.size + 1 := by omega
  have lwB : w.heap.size < w1.heap.size + 1 + 1 := by omega
  have lwC : w.heap.size < w1.heap.size + 1 + 1 + 1 := by omega
  have lwD : w.heap.size < w1.heap.size + 1 + 1 + 1 + 1 := by omega
  have lwE : w.heap.size < w1.heap.size + 1 + 1 + 1 + 1 + 1 := by omega
  have hly : w1.heap.size + 1 + 1 + 1 + 1 < wy.heap.size := by omega
  clear xx y0 y1 y2 y3 y4 d0 d1 d2 d3 d4 hwy hwd hwc hwb hwa hwx s0 s1 s2 s3 s4 xs bx
  have hmade : (wy.alloc (.cells #[] 9)).ownsRow wy.heap.size 9 1 (.slice (some ⟨w1.heap.size + 1 + 1 + 1 + 1 + 1, 0, none⟩) 0 0) 0 [] := by rw [← Sy.out]; exact World.ownsRow_made (w := wy) (base := wy.heap.size) (e := 9) (size := 1) #[] 0 (Nat.le_refl _) (by decide) rfl
  have b7 := chain by_ (below_new wy (.cells #[] 9))
  have ci := fun W hV hR => Wants_any B hB ⟨x.key, inS, V⟩ (.slice ua x.vals.length uc) a c l8 (by omega) W hV hR
  have cn := fun W hV hR => Wants_any B hB ⟨x.key, notS, V⟩ (.slice ua x.vals.length uc) a c l8 (by omega) W hV hR
  have ct := fun W hV hR => Wants_any B hB ⟨x.key, thereS, V⟩ (.slice ua x.vals.length uc) a c l8 (by omega) W hV hR
  have cg := fun W hV hR => Wants_any B hB ⟨x.key, goneS, V⟩ (.slice ua x.vals.length uc) a c l8 (by omega) W hV hR
  have cw := fun W t hV hR => Wants_any B hB ⟨x.key, inS, V ++ [more]⟩ t a c l8 (by omega) W hV hR
  have cH := fun W hR => Has_any B hB a c l8 (by omega) x.key W hR
  unfold HasTo at cH
  obtain ⟨p1, p2, p3, p4⟩ := wants_how ⟨x.key, x.how, V⟩ l8
  have p5 := (wants_how ⟨x.key, x.how, V ++ [more]⟩ l8).1
  simp only at p1 p2 p3 p4 p5
  rw [among_snoc] at p5
  rw [p1] at ci
  rw [p2] at cn
  rw [p3] at ct
  rw [p4] at cg
  rw [p5] at cw
  have hi0' : amongB V (hasV l8 x.key) (hasB l8 x.key) = true → hasB l8 x.key = true := fun h => by unfold amongB at h; exact (Bool.and_eq_true _ _ ▸ h).1
  clear p1 p2 p3 p4 p5
  generalize amongB V (hasV l8 x.key) (hasB l8 x.key) = i at *
  generalize hasV l8 x.key = hv at *
  generalize hasB l8 x.key = is at *
  obtain ⟨vm, hvm⟩ : ∃ vm, (hv.toList == more.toList) = vm := ⟨_, rfl⟩
  rw [hvm] at cw
  have Hvm := Lib.hid hvm
  have Hi0 := Lib.hid hi0'
  clear hi0' hvm
  go_wp2_with (first
    | (at_builtin; have Hw := Hwy.out; unfold inS notS thereS goneS at Hw; rw [← Hw]; clear Hw; refine wpList_append_row (o := ⟨some 38, _, _, _, _, _⟩) (r := text B) (w0 := w) (base := wy.heap.size) (v := .slice (some ⟨w1.heap.size + 1 + 1 + 1 + 1 + 1, 0, none⟩) 0 0) (n := 0) (xs := []) (A := ua) (m := x.vals.length) (c := uc) rfl _ _ 35 rfl Tryd.underlying35 hi0 hz0 hz1 hz2 rfl (Nat.zero_lt_succ 0) rfl hmade HM.out rfl hVr b7 (one_Tx B) (by have := HM.out; unfold maxLen; omega) (by have := HM.out; omega) (by simp) ?_; intro css v7 w7 hL hown7 hg7 _; have b67 : Kept (fun i => i = w1.heap.size + 1 + 1 + 1 + 1 + 1) wy w7 := ((Kept.alloc wy _).mono (fun i h => h.elim)).trans ((Kept.grown hg7).mono (fun i h => by simp [Value.ownBlock] at h; exact h.symm)); have y3 := b67.blk z3 (show ¬ (w.heap.size = w1.heap.size + 1 + 1 + 1 + 1 + 1) by omega); have y8 := b67.blk z8 (show ¬ (w1.heap.size = w1.heap.size + 1 + 1 + 1 + 1 + 1) by omega); have y9 := b67.blk z9 (show ¬ (w1.heap.size + 1 = w1.heap.size + 1 + 1 + 1 + 1 + 1) by omega); have y10 := b67.blk z10 (show ¬ (w1.heap.size + 1 + 1 = w1.heap.size + 1 + 1 + 1 + 1 + 1) by omega); have y11 := b67.blk z11 (show ¬ (w1.heap.size + 1 + 1 + 1 = w1.heap.size + 1 + 1 + 1 + 1 + 1) by omega); have y12 := b67.blk z12 (show ¬ (w1.heap.size + 1 + 1 + 1 + 1 = w1.heap.size + 1 + 1 + 1 + 1 + 1) by omega); have hown8 : w7.ownsRow wy.heap.size 9 1 v7 V.length css.flatten := (by simpa [text] using hown7); have bw7 : Below w.heap.size w w7 := below_own b7 hg7 hmade by_.size; obtain ⟨va, vc, rfl⟩ := own_form hown8; have f12 := blk_frozen y12 2; have e12 : w7.cell? ⟨w1.heap.size + 1 + 1 + 1 + 1, 2, none⟩ = some (.slice ua x.vals.length uc) := blk_cell y12 2; have hownS : (w7.setCell ⟨w1.heap.size + 1 + 1 + 1 + 1, 2, none⟩ (.slice va V.length vc)).ownsRow wy.heap.size 9 1 (.slice va V.length vc) V.length css.flatten := (Kept.set w7 (w1.heap.size + 1 + 1 + 1 + 1) 2 (.slice va V.length vc)).own hown8 (own_cell (own_ne hown8 y12 (by decide))); have bS := bw7.setCell (p := ⟨w1.heap.size + 1 + 1 + 1 + 1, 2, none⟩) (show w.heap.size ≤ w1.heap.size + 1 + 1 + 1 + 1 by omega) (.slice va V.length vc); have x3 := ((Kept.set w7 (w1.heap.size + 1 + 1 + 1 + 1) 2 (.slice va V.length vc)).blk y3 (show ¬ (w.heap.size = w1.heap.size + 1 + 1 + 1 + 1) by omega)); have x8 := ((Kept.set w7 (w1.heap.size + 1 + 1 + 1 + 1) 2 (.slice va V.length vc)).blk y8 (show ¬ (w1.heap.size = w1.heap.size + 1 + 1 + 1 + 1) by omega)); have x9 := ((Kept.set w7 (w1.heap.size + 1 + 1 + 1 + 1) 2 (.slice va V.length vc)).blk y9 (show ¬ (w1.heap.size + 1 = w1.heap.size + 1 + 1 + 1 + 1) by omega)); have x10 := ((Kept.set w7 (w1.heap.size + 1 + 1 + 1 + 1) 2 (.slice va V.length vc)).blk y10 (show ¬ (w1.heap.size + 1 + 1 = w1.heap.size + 1 + 1 + 1 + 1) by omega)); have x11 := ((Kept.set w7 (w1.heap.size + 1 + 1 + 1 + 1) 2 (.slice va V.length vc)).blk y11 (show ¬ (w1.heap.size + 1 + 1 + 1 = w1.heap.size + 1 + 1 + 1 + 1) by omega)); have x12 := blk_set y12 2 (.slice va V.length vc); clear hown7 hg7 hmade y3 y8 y9 y10 y11 y12 z3 z8 z9 z10 z11 z12 hown8)
    | (at_builtin; refine wpList_append_own_at (o := ⟨some 44, _, _, _, _, _⟩) _ rfl _ _ 35 rfl wy.heap.size 9 i0 _ 1 16 Tryd.underlying35 hi0 hz0 hz1 hz2 rfl (by decide) (.slice va V.length vc) V.length css.flatten rfl (hownS.alloc _) ⟨w7.heap.size, 0, none⟩ 1 1 [.string more] rfl rfl (cells_new (by simp) _ _) (by intro u hu; simp only [List.mem_cons, List.not_mem_nil, or_false] at hu; rcases hu with rfl; rfl) (by unfold maxLen; omega) (by omega) (by have := b67.1; simp; omega) ?_; intro v9 w9 hown9 hg9 _ _; have KS := below_new (w7.setCell ⟨w1.heap.size + 1 + 1 + 1 + 1, 2, none⟩ (.slice va V.length vc)) (.cells #[.string more] 9); have t3 := (Kept.grown hg9).blk (blk_later x3 KS) (own_ne (hownS.alloc _) (blk_later x3 KS) (by decide)); have t8 := (Kept.grown hg9).blk (blk_later x8 KS) (own_ne (hownS.alloc _) (blk_later x8 KS) (by decide)); have t9 := (Kept.grown hg9).blk (blk_later x9 KS) (own_ne (hownS.alloc _) (blk_later x9 KS) (by decide)); have t10 := (Kept.grown hg9).blk (blk_later x10 KS) (own_ne (hownS.alloc _) (blk_later x10 KS) (by decide)); have t11 := (Kept.grown hg9).blk (blk_later x11 KS) (own_ne (hownS.alloc _) (blk_later x11 KS) (by decide)); have t12 := (Kept.grown hg9).blk (blk_later x12 KS) (own_ne (hownS.alloc _) (blk_later x12 KS) (by decide)); have b9 : Below w.heap.size w w9 := below_own (chain bS KS) hg9 (hownS.alloc _) by_.size; have hown10 := own_flat hown9 [[.string more]] rfl; obtain ⟨vb, vd, rfl⟩ := own_form hown10; have f12' := blk_frozen t12 2; have e12' : w9.cell? ⟨w1.heap.size + 1 + 1 + 1 + 1, 2, none⟩ = some (.slice va V.length vc) := blk_cell t12 2; have e3 : w9.cell? ⟨w.heap.size, 0, none⟩ = some (.string x.key) := blk_cell t3 0; have hL2 := hL.append (Lists.one (tx_at (W := w) (B := B) hmo)); clear hg9 KS x3 x8 x9 x10 x11 x12 hownS hown9 bS f12 e12 b67 bw7))
  obtain ⟨wf, hwf⟩ : ∃ wf, wf = w9.setCell ⟨w1.heap.size + 1 + 1 + 1 + 1, 2, none⟩ (.slice vb (V.length + 1) vd) := ⟨_, rfl⟩
  rw [← hwf]
  have KF := Kept.set w9 (w1.heap.size + 1 + 1 + 1 + 1) 2 (.slice vb (V.length + 1) vd)
  have bf : Below w.heap.size w wf := by rw [hwf]; exact b9.setCell (show w.heap.size ≤ w1.heap.size + 1 + 1 + 1 + 1 by omega) _
  have of : wf.ownsRow wy.heap.size 9 1 (.slice vb (V.length + 1) vd) (V.length + 1) (css ++ [[Value.string more]]).flatten := by rw [hwf]; exact KF.own hown10 (own_cell (own_ne hown10 t12 (by decide)))
  have r8 := hwf ▸ KF.blk t8 (show ¬ (w1.heap.size = w1.heap.size + 1 + 1 + 1 + 1) by omega)
  have r9 := hwf ▸ KF.blk t9 (show ¬ (w1.heap.size + 1 = w1.heap.size + 1 + 1 + 1 + 1) by omega)
  have r10 := hwf ▸ KF.blk t10 (show ¬ (w1.heap.size + 1 + 1 = w1.heap.size + 1 + 1 + 1 + 1) by omega)
  have r11 := hwf ▸ KF.blk t11 (show ¬ (w1.heap.size + 1 + 1 + 1 = w1.heap.size + 1 + 1 + 1 + 1) by omega)
  have r12 := hwf ▸ blk_set t12 2 (.slice vb (V.length + 1) vd)
  have rV : RowAt B (text B) wf (.slice ua x.vals.length uc) V := ⟨ua, uc, by rw [HM.out], hVc, hucm, by omega, hVr.later bf⟩
  have rW : RowAt B (text B) wf (.slice vb (V.length + 1) vd) (V ++ [more]) := RowAt.of_own of (by simp) (hL2.later bf) (by simp; omega)
  refine (cH _ (hr8.later bf)).mono ?_
  rintro e wz ⟨rfl, hbz⟩
  have bz := chain bf hbz
  have C8 := Lib.hid (show ∀ W, Below wz.heap.size wz W → Calls Tryd.prog 14 #[.agg #[.string x.key, .string inS, .slice ua x.vals.length uc], .slice a l8.length c] W (fun e W' => e = .returned (.bool i) ∧ Below W.heap.size W W') from fun W hW => ci _ ((rV.later hbz).later hW) (hr8.later (chain bz hW)))
  have C9 := Lib.hid (show ∀ W, Below wz.heap.size wz W → Calls Tryd.prog 14 #[.agg #[.string x.key, .string notS, .slice ua x.vals.length uc], .slice a l8.length c] W (fun e W' => e = .returned (.bool (!i)) ∧ Below W.heap.size W W') from fun W hW => cn _ ((rV.later hbz).later hW) (hr8.later (chain bz hW)))
  have C10 := Lib.hid (show ∀ W, Below wz.heap.size wz W → Calls Tryd.prog 14 #[.agg #[.string x.key, .string thereS, .slice ua x.vals.length uc], .slice a l8.length c] W (fun e W' => e = .returned (.bool is) ∧ Below W.heap.size W W') from fun W hW => ct _ ((rV.later hbz).later hW) (hr8.later (chain bz hW)))
  have C11 := Lib.hid (show ∀ W, Below wz.heap.size wz W → Calls Tryd.prog 14 #[.agg #[.string x.key, .string goneS, .slice ua x.vals.length uc], .slice a l8.length c] W (fun e W' => e = .returned (.bool (!is)) ∧ Below W.heap.size W W') from fun W hW => cg _ ((rV.later hbz).later hW) (hr8.later (chain bz hW)))
  have C12 := Lib.hid (show ∀ W, Below wz.heap.size wz W → Calls Tryd.prog 14 #[.agg #[.string x.key, .string inS, .slice vb (V.length + 1) vd], .slice a l8.length c] W (fun e W' => e = .returned (.bool (i || (is && vm))) ∧ Below W.heap.size W W') from fun W hW => cw _ _ ((rW.later hbz).later hW) (hr8.later (chain bz hW)))
  have m80 := cell_below (blk_lt (blk_later r8 hbz)) (show wz.cell? ⟨w1.heap.size, 0, none⟩ = some (.string x.key) from blk_cell (blk_later r8 hbz) 0)
  have m81 := cell_below (blk_lt (blk_later r8 hbz)) (show wz.cell? ⟨w1.heap.size, 1, none⟩ = some (.string inS) from blk_cell (blk_later r8 hbz) 1)
  have m82 := cell_below (blk_lt (blk_later r8 hbz)) (show wz.cell? ⟨w1.heap.size, 2, none⟩ = some (.slice ua x.vals.length uc) from blk_cell (blk_later r8 hbz) 2)
  have m90 := cell_below (blk_lt (blk_later r9 hbz)) (show wz.cell? ⟨w1.heap.size + 1, 0, none⟩ = some (.string x.key) from blk_cell (blk_later r9 hbz) 0)
  have m91 := cell_below (blk_lt (blk_later r9 hbz)) (show wz.cell? ⟨w1.heap.size + 1, 1, none⟩ = some (.string notS) from blk_cell (blk_later r9 hbz) 1)
  have m92 := cell_below (blk_lt (blk_later r9 hbz)) (show wz.cell? ⟨w1.heap.size + 1, 2, none⟩ = some (.slice ua x.vals.length uc) from blk_cell (blk_later r9 hbz) 2)
  have m100 := cell_below (blk_lt (blk_later r10 hbz)) (show wz.cell? ⟨w1.heap.size + 1 + 1, 0, none⟩ = some (.string x.key) from blk_cell (blk_later r10 hbz) 0)
  have m101 := cell_below (blk_lt (blk_later r10 hbz)) (show wz.cell? ⟨w1.heap.size + 1 + 1, 1, none⟩ = some (.string thereS) from blk_cell (blk_later r10 hbz) 1)
  have m102 := cell_below (blk_lt (blk_later r10 hbz)) (show wz.cell? ⟨w1.heap.size + 1 + 1, 2, none⟩ = some (.slice ua x.vals.length uc) from blk_cell (blk_later r10 hbz) 2)
  have m110 := cell_below (blk_lt (blk_later r11 hbz)) (show wz.cell? ⟨w1.heap.size + 1 + 1 + 1, 0, none⟩ = some (.string x.key) from blk_cell (blk_later r11 hbz) 0)
  have m111 := cell_below (blk_lt (blk_later r11 hbz)) (show wz.cell? ⟨w1.heap.size + 1 + 1 + 1, 1, none⟩ = some (.string goneS) from blk_cell (blk_later r11 hbz) 1)
  have m112 := cell_below (blk_lt (blk_later r11 hbz)) (show wz.cell? ⟨w1.heap.size + 1 + 1 + 1, 2, none⟩ = some (.slice ua x.vals.length uc) from blk_cell (blk_later r11 hbz) 2)
  have m120 := cell_below (blk_lt (blk_later r12 hbz)) (show wz.cell? ⟨w1.heap.size + 1 + 1 + 1 + 1, 0, none⟩ = some (.string x.key) from blk_cell (blk_later r12 hbz) 0)
  have m121 := cell_below (blk_lt (blk_later r12 hbz)) (show wz.cell? ⟨w1.heap.size + 1 + 1 + 1 + 1, 1, none⟩ = some (.string inS) from blk_cell (blk_later r12 hbz) 1)
  have m122 := cell_below (blk_lt (blk_later r12 hbz)) (show wz.cell? ⟨w1.heap.size + 1 + 1 + 1 + 1, 2, none⟩ = some (.slice vb (V.length + 1) vd) from blk_cell (blk_later r12 hbz) 2)
  have mixed := mixed
  clear r8 r9 r10 r11 r12 rV rW of KF hwf t3 t8 t9 t10 t11 t12 e3 e12' f12' hown10 hL hL2 ci cn ct cg cw cH cf k0 k1 k2 q2 x1 b1 b9 b7 by_ bf hbz
  go_wp2
  cases is with
  | false =>
    obtain rfl : i = false := by cases i with
      | false => rfl
      | true => exact absurd (Hi0.out rfl) (by decide)
    refine wp_region_quiet_below (by assumption) (by kernel_rfl) ?_
    repeat (quiet_step (first
      | (go_at_call 14; (with_reducible show Calls Tryd.prog 14 #[.agg #[.string x.key, .string inS, .slice ua x.vals.length uc], .slice a l8.length c] _ _); exact calls_below (C8.out _ (below_of_grown _ _)))
      | (go_at_call 14; (with_reducible show Calls Tryd.prog 14 #[.agg #[.string x.key, .string notS, .slice ua x.vals.length uc], .slice a l8.length c] _ _); exact calls_below (C9.out _ (below_of_grown _ _)))
      | (go_at_call 14; (with_reducible show Calls Tryd.prog 14 #[.agg #[.string x.key, .string thereS, .slice ua x.vals.length uc], .slice a l8.length c] _ _); exact calls_below (C10.out _ (below_of_grown _ _)))
      | (go_at_call 14; (with_reducible show Calls Tryd.prog 14 #[.agg #[.string x.key, .string goneS, .slice ua x.vals.length uc], .slice a l8.length c] _ _); exact calls_below (C11.out _ (below_of_grown _ _)))
      | (go_at_call 14; (with_reducible show Calls Tryd.prog 14 #[.agg #[.string x.key, .string inS, .slice vb (V.length + 1) vd], .slice a l8.length c] _ _); exact calls_below (C12.out _ (below_of_grown _ _)))))
    refine wpQuiet_nil ?_
    intro _ hw'
    obtain ⟨⟨nq, osq⟩, hw''⟩ := hw'
    subst hw''
    go_wp2_with fail
    go_ret
    exact ⟨rfl, chain bz (below_of_grown nq osq)⟩
  | true =>
    cases i with
    | true =>
      refine wp_region_quiet_below (by assumption) (by kernel_rfl) ?_
      repeat (quiet_step (first
        | (go_at_call 14; (with_reducible show Calls Tryd.prog 14 #[.agg #[.string x.key, .string inS, .slice ua x.vals.length uc], .slice a l8.length c] _ _); exact calls_below (C8.out _ (below_of_grown _ _)))
        | (go_at_call 14; (with_reducible show Calls Tryd.prog 14 #[.agg #[.string x.key, .string notS, .slice ua x.vals.length uc], .slice a l8.length c] _ _); exact calls_below (C9.out _ (below_of_grown _ _)))
        | (go_at_call 14; (with_reducible show Calls Tryd.prog 14 #[.agg #[.string x.key, .string thereS, .slice ua x.vals.length uc], .slice a l8.length c] _ _); exact calls_below (C10.out _ (below_of_grown _ _)))
        | (go_at_call 14; (with_reducible show Calls Tryd.prog 14 #[.agg #[.string x.key, .string goneS, .slice ua x.vals.length uc], .slice a l8.length c] _ _); exact calls_below (C11.out _ (below_of_grown _ _)))
        | (go_at_call 14; (with_reducible show Calls Tryd.prog 14 #[.agg #[.string x.key, .string inS, .slice vb (V.length + 1) vd], .slice a l8.length c] _ _); exact calls_below (C12.out _ (below_of_grown _ _)))))
      refine wpQuiet_nil ?_
      intro _ hw'
      obtain ⟨⟨nq, osq⟩, hw''⟩ := hw'
      subst hw''
      go_wp2_with fail
      go_ret
      exact ⟨rfl, chain bz (below_of_grown nq osq)⟩
    | false =>
      cases vm with
      | true =>
        have hvm := Hvm.out
        refine wp_region_quiet_below (by assumption) (by kernel_rfl) ?_
        repeat (quiet_step (first
          | (go_at_call 14; (with_reducible show Calls Tryd.prog 14 #[.agg #[.string x.key, .string inS, .slice ua x.vals.length uc], .slice a l8.length c] _ _); exact calls_below (C8.out _ (below_of_grown _ _)))
          | (go_at_call 14; (with_reducible show Calls Tryd.prog 14 #[.agg #[.string x.key, .string notS, .slice ua x.vals.length uc], .slice a l8.length c] _ _); exact calls_below (C9.out _ (below_of_grown _ _)))
          | (go_at_call 14; (with_reducible show Calls Tryd.prog 14 #[.agg #[.string x.key, .string thereS, .slice ua x.vals.length uc], .slice a l8.length c] _ _); exact calls_below (C10.out _ (below_of_grown _ _)))
          | (go_at_call 14; (with_reducible show Calls Tryd.prog 14 #[.agg #[.string x.key, .string goneS, .slice ua x.vals.length uc], .slice a l8.length c] _ _); exact calls_below (C11.out _ (below_of_grown _ _)))
          | (go_at_call 14; (with_reducible show Calls Tryd.prog 14 #[.agg #[.string x.key, .string inS, .slice vb (V.length + 1) vd], .slice a l8.length c] _ _); exact calls_below (C12.out _ (below_of_grown _ _)))))
        refine wpQuiet_nil ?_
        intro _ hw'
        obtain ⟨⟨nq, osq⟩, hw''⟩ := hw'
        subst hw''
        go_wp2_with fail
        go_ret
        exact ⟨rfl, chain bz (below_of_grown nq osq)⟩
      | false =>
        have hvm := Hvm.out
        refine wp_region_quiet_below (by assumption) (by kernel_rfl) ?_
        repeat (quiet_step (first
          | (go_at_call 14; (with_reducible show Calls Tryd.prog 14 #[.agg #[.string x.key, .string inS, .slice ua x.vals.length uc], .slice a l8.length c] _ _); exact calls_below (C8.out _ (below_of_grown _ _)))
          | (go_at_call 14; (with_reducible show Calls Tryd.prog 14 #[.agg #[.string x.key, .string notS, .slice ua x.vals.length uc], .slice a l8.length c] _ _); exact calls_below (C9.out _ (below_of_grown _ _)))
          | (go_at_call 14; (with_reducible show Calls Tryd.prog 14 #[.agg #[.string x.key, .string thereS, .slice ua x.vals.length uc], .slice a l8.length c] _ _); exact calls_below (C10.out _ (below_of_grown _ _)))
          | (go_at_call 14; (with_reducible show Calls Tryd.prog 14 #[.agg #[.string x.key, .string goneS, .slice ua x.vals.length uc], .slice a l8.length c] _ _); exact calls_below (C11.out _ (below_of_grown _ _)))
          | (go_at_call 14; (with_reducible show Calls Tryd.prog 14 #[.agg #[.string x.key, .string inS, .slice vb (V.length + 1) vd], .slice a l8.length c] _ _); exact calls_below (C12.out _ (below_of_grown _ _)))))
        refine wpQuiet_nil ?_
        intro _ hw'
        obtain ⟨⟨nq, osq⟩, hw''⟩ := hw'
        subst hw''
        go_wp2_with fail
        go_ret
        exact ⟨rfl, chain bz (below_of_grown nq osq)⟩
end Go.Proofs.YtodobacgbbpmfaaDoor.lab
