/- Layer 7: the law LabelPairs. -/
import Derived.Test.YtodobacgbbpmfaaDoorLabAwake
import Derived.Test.YtodobacgbbpmfaaDoorRepK
namespace Go.Proofs.YtodobacgbbpmfaaDoor.lab
open Go.RowKit Go.Proofs.YtodobacgbbpmfaaDoor.rep

/-- A place out of any number. -/
theorem place (x : Int) (n : Nat) (hn : 0 < n) : ∃ k : Nat, k < n ∧ x.tmod n % n = (k : Int) ∧ -(n : Int) < x.tmod n ∧ x.tmod n < n := by
  have h1 : x.tmod n < n := by
    have := Int.tmod_lt_of_pos x (show (0 : Int) < n by omega); exact this
  have h2 : -(n : Int) < x.tmod n := by
    have := Int.lt_tmod_of_pos x (show (0 : Int) < n by omega); omega
  have h3 := Int.emod_nonneg (x.tmod n) (show (n : Int) ≠ 0 by omega)
  have h4 := Int.emod_lt_of_pos (x.tmod n) (show (0 : Int) < n by omega)
  obtain ⟨k, hk⟩ := Int.eq_ofNat_of_zero_le h3
  exact ⟨k, by omega, hk, h2, h1⟩
set_option maxRecDepth 100000 in
set_option maxHeartbeats 4000000 in
theorem lawPairs (B : Nat) (hB : B ≤ 140737488355328) (hB2 : 100 ≤ B) (u : Value) (l : List Pr) (out : Int) (w : World) (hr : RowAt B (prR B) w u l) (hm : nam.MaxL w) :
    Calls Tryd.prog 7 #[u, .int .i64 out] w fun e w' => e = .returned (.bool true) ∧ Below w.heap.size w w' := by
  obtain ⟨i0, hi0, hz0, hz1, hz2⟩ := info_parts info_Pr
  obtain ⟨a, c, rfl, hlc, hcm, hlB, hri⟩ := hr
  obtain ⟨m, hme⟩ : ∃ m, m = (l.take 8).length := ⟨_, rfl⟩
  have hm8 : m ≤ 8 := by rw [hme, List.length_take]; omega
  have hml : m ≤ l.length := by rw [hme, List.length_take]; omega
  have cf := fun w => few_any a c l hlc hcm m hme w
  have hr8 : RowIn (prR B) w a (l.take 8) := hri.take 8
  generalize l.take 8 = l8 at *
  subst hme
  have cL := fun w hr hm => Labels_any B hB a c l8 (by omega) w hr hm
  clear hri
  cases hl : labelsB l8 with
  | false =>
    rw [hl] at cL
    clear hl
    go_enter Tryd.func7, Tryd.ntmps7
    go_wp2_with fail
    refine (awake_any _ hm).mono ?_
    rintro e w1 ⟨rfl, hb1⟩
    go_wp2_with fail
    refine (cf _).mono ?_
    rintro e w2 ⟨rfl, rfl⟩
    go_wp2_with fail
    refine (cL _ (hr8.later hb1) (hm.later hb1)).mono ?_
    rintro e w2 ⟨rfl, hb2⟩
    go_wp2
    go_ret
    exact ⟨rfl, chain hb1 hb2⟩
  | true =>
    have Hl := Lib.hid hl
    rw [hl] at cL
    clear hl
    have RU : Hid (∀ W, Below w.heap.size w W → RowAt B (prR B) W (.slice a l8.length c) l8) := fun W hW => ⟨a, c, rfl, by omega, hcm, by omega, hr8.later hW⟩
    have RN : Hid (∀ W, RowAt B (wtR B) W (.slice none 0 0) []) := fun W => ⟨none, 0, rfl, Nat.le_refl _, by omega, by simp, .inl rfl⟩
    have RP : Hid (∀ W, RowAt B (prR B) W (.slice none 0 0) []) := fun W => ⟨none, 0, rfl, Nat.le_refl _, by omega, by simp, .inl rfl⟩
    have c1 : ∀ W, Below w.heap.size w W → Calls Tryd.prog 20 #[.agg #[.slice a l8.length c, .slice none 0 0], .slice a l8.length c] W fun e W' => e = .returned (.bool true) ∧ Below W.heap.size W W' := fun W hW => by
      have := Selects_any B hB ⟨l8, []⟩ _ _ a c l8 (by omega) W (RU.out W hW) (RN.out W) (hr8.later hW)
      rwa [sel_own Hl.out] at this
    have c2 : ∀ W, Below w.heap.size w W → Calls Tryd.prog 20 #[.agg #[.slice none 0 0, .slice none 0 0], .slice a l8.length c] W fun e W' => e = .returned (.bool true) ∧ Below W.heap.size W W' := fun W hW =>
      Selects_any B hB ⟨[], []⟩ _ _ a c l8 (by omega) W (RP.out W) (RN.out W) (hr8.later hW)
    have c3 : ∀ W, Below w.heap.size w W → Calls Tryd.prog 16 #[.agg #[.slice a l8.length c, .slice none 0 0]] W fun e W' => e = .returned (.bool true) ∧ Below W.heap.size W W' := fun W hW => by
      have := Check_any B hB ⟨l8, []⟩ _ _ W (RU.out W hW) (RN.out W) (hm.later hW)
      rwa [check_own Hl.out] at this
    have c4 : ∀ W, Below w.heap.size w W → Calls Tryd.prog 22 #[.agg #[.slice a l8.length c, .slice none 0 0]] W fun e W' => e = .returned (.bool (emptyB ⟨l8, []⟩)) ∧ Below W.heap.size W W' := fun W hW =>
      Empty_any B ⟨l8, []⟩ _ _ W (RU.out W hW) (RN.out W)
    have hem : emptyB ⟨l8, []⟩ = decide (l8.length = 0) := by unfold emptyB; simp
    rw [hem] at c4
    clear hem
    by_cases hn : l8.length = 0
    · have e0 : ((l8.length : Int) == 0) = true := by rw [hn]; rfl
      rw [decide_eq_true hn] at c4
      have Hn := Lib.hid hn
      clear hn
      go_enter Tryd.func7, Tryd.ntmps7
      go_wp2_with fail
      refine (awake_any _ hm).mono ?_
      rintro e w1 ⟨rfl, hb1⟩
      go_wp2_with fail
      refine (cf _).mono ?_
      rintro e w2 ⟨rfl, rfl⟩
      go_wp2_with fail
      refine (cL _ (hr8.later hb1) (hm.later hb1)).mono ?_
      rintro e w2 ⟨rfl, hb2⟩
      have b2 := chain hb1 hb2
      have BX := Lib.hid (show ∀ W, Below (w2.alloc (.cells #[.slice a l8.length c, .slice none 0 0] 25)).heap.size (w2.alloc (.cells #[.slice a l8.length c, .slice none 0 0] 25)) W → W.cell? ⟨w2.heap.size, 0, none⟩ = some (.slice a l8.length c) ∧ W.cell? ⟨w2.heap.size, 1, none⟩ = some (.slice none 0 0) ∧ w2.heap.size < W.heap.size from fun W hW =>
        ⟨(hW.cell (p := ⟨w2.heap.size, 0, none⟩) (by show w2.heap.size < _; simp)).trans (cell_new _ _ _ _), (hW.cell (p := ⟨w2.heap.size, 1, none⟩) (by show w2.heap.size < _; simp)).trans (cell_new _ _ _ _), by have := hW.size; simp at this; omega⟩)
      have b3 := chain b2 (below_new w2 (.cells #[.slice a l8.length c, .slice none 0 0] 25))
      go_wp2_with fail
      refine (c1 _ b3).mono ?_
      rintro e w3 ⟨rfl, hb3⟩
      obtain ⟨x0, x1, xl⟩ := BX.out w3 hb3
      go_wp2_with fail
      refine (c2 _ (chain b3 hb3)).mono ?_
      rintro e w4 ⟨rfl, hb4⟩
      have hb34 := chain hb3 hb4
      clear x0 x1 xl
      obtain ⟨x0, x1, xl⟩ := BX.out w4 hb34
      go_wp2_with fail
      refine (c3 _ (chain b3 hb34)).mono ?_
      rintro e w5 ⟨rfl, hb5⟩
      have hb35 := chain hb34 hb5
      clear x0 x1 xl
      obtain ⟨x0, x1, xl⟩ := BX.out w5 hb35
      go_wp2_with fail
      refine (c4 _ (chain b3 hb35)).mono ?_
      rintro e w6 ⟨rfl, hb6⟩
      have hb36 := chain hb35 hb6
      have b6 := chain b3 hb36
      clear x0 x1 xl
      obtain ⟨x0, x1, xl⟩ := BX.out w6 hb36
      go_wp2
      go_ret
      exact ⟨rfl, b6⟩
    · have e0 : ((l8.length : Int) == 0) = false := beq_eq_false_iff_ne.2 (by omega)
      rw [decide_eq_false hn] at c4
      have hn1 : 0 < l8.length := by omega
      clear hn
      obtain ⟨k, hk, hke, hp1, hp2⟩ := place out l8.length hn1
      obtain ⟨b, off, rfl, _⟩ := hr8.get hn1
      have hrT : RowIn (prR B) w (some ⟨b, off, none⟩) (l8.take k) := hr8.take k
      have hrD : RowIn (prR B) w (some ⟨b, off + (k + 1) * 2, none⟩) (l8.drop (k + 1)) := hr8.drop (k + 1)
      have HTl := Lib.hid (show k = (l8.take k).length by rw [List.length_take]; omega)
      have HDl := Lib.hid (show l8.length - (k + 1) = (l8.drop (k + 1)).length by rw [List.length_drop])
      have Hsel := Lib.hid (sel_out Hl.out hk)
      obtain ⟨M, hM⟩ : ∃ M, M = l8.take k ++ l8.drop (k + 1) := ⟨_, rfl⟩
      have HMl := Lib.hid (show M.length = k + (l8.drop (k + 1)).length by rw [hM, List.length_append, ← HTl.out])
      have HM := Lib.hid hM
      clear hM
      go_enter Tryd.func7, Tryd.ntmps7
      go_wp2_with fail
      refine (awake_any _ hm).mono ?_
      rintro e w1 ⟨rfl, hb1⟩
      go_wp2_with fail
      refine (cf _).mono ?_
      rintro e w2 ⟨rfl, rfl⟩
      go_wp2_with fail
      refine (cL _ (hr8.later hb1) (hm.later hb1)).mono ?_
      rintro e w2 ⟨rfl, hb2⟩
      have b2 := chain hb1 hb2
      have BX := Lib.hid (show ∀ W, Below (w2.alloc (.cells #[.slice (some ⟨b, off, none⟩) l8.length c, .slice none 0 0] 25)).heap.size (w2.alloc (.cells #[.slice (some ⟨b, off, none⟩) l8.length c, .slice none 0 0] 25)) W → W.cell? ⟨w2.heap.size, 0, none⟩ = some (.slice (some ⟨b, off, none⟩) l8.length c) ∧ W.cell? ⟨w2.heap.size, 1, none⟩ = some (.slice none 0 0) ∧ w2.heap.size < W.heap.size from fun W hW =>
        ⟨(hW.cell (p := ⟨w2.heap.size, 0, none⟩) (by show w2.heap.size < _; simp)).trans (cell_new _ _ _ _), (hW.cell (p := ⟨w2.heap.size, 1, none⟩) (by show w2.heap.size < _; simp)).trans (cell_new _ _ _ _), by have := hW.size; simp at this; omega⟩)
      have b3 := chain b2 (below_new w2 (.cells #[.slice (some ⟨b, off, none⟩) l8.length c, .slice none 0 0] 25))
      go_wp2_with fail
      refine (c1 _ b3).mono ?_
      rintro e w3 ⟨rfl, hb3⟩
      obtain ⟨x0, x1, xl⟩ := BX.out w3 hb3
      go_wp2_with fail
      refine (c2 _ (chain b3 hb3)).mono ?_
      rintro e w4 ⟨rfl, hb4⟩
      have hb34 := chain hb3 hb4
      clear x0 x1 xl
      obtain ⟨x0, x1, xl⟩ := BX.out w4 hb34
      go_wp2_with fail
      refine (c3 _ (chain b3 hb34)).mono ?_
      rintro e w5 ⟨rfl, hb5⟩
      have hb35 := chain hb34 hb5
      clear x0 x1 xl
      obtain ⟨x0, x1, xl⟩ := BX.out w5 hb35
      go_wp2_with fail
      refine (c4 _ (chain b3 hb35)).mono ?_
      rintro e w6 ⟨rfl, hb6⟩
      have hb36 := chain hb35 hb6
      have b6 := chain b3 hb36
      clear x0 x1 xl
      obtain ⟨x0, x1, xl⟩ := BX.out w6 hb36
      have b7 := chain b6 (below_new w6 (.cells #[] 43))
      have hmade := World.ownsRow_made (w := w6) (base := w6.heap.size) (e := 43) (size := 2) #[] 0 (Nat.le_refl _) (by decide) rfl
      by_cases hck : c = k + 1
      · subst hck
        have hrD : RowIn (prR B) w (some ⟨b, off, none⟩) (l8.drop (k + 1)) := .inl (List.drop_eq_nil_of_le (by omega))
        go_wp2_with (first
          | (at_builtin; refine wpList_append_row (o := ⟨some 57, _, _, _, _, _⟩) (r := prR B) (w0 := w) (base := w6.heap.size) (v := .slice (some ⟨w6.heap.size, 0, none⟩) 0 0) (n := 0) (xs := []) (A := some ⟨b, off, none⟩) (m := k) (c := k + 1) rfl _ _ 22 rfl Tryd.underlying22 hi0 hz0 hz1 hz2 rfl (Nat.zero_lt_succ 1) rfl hmade HTl.out rfl hrT b7 (one_Pr B) (by have := HTl.out; unfold maxLen; omega) (by have := HTl.out; omega) (by simp) ?_; intro css v7 w7 hL hown7 hg7 _; have b67 : Below w6.heap.size w6 w7 := below_own (below_new w6 _) hg7 hmade (Nat.le_refl _); have hown8 : w7.ownsRow w6.heap.size 43 2 v7 k css.flatten := (by have := HTl.out; rw [← this] at hown7; simpa [prR] using hown7); clear hg7 hown7 hmade)
          | (at_builtin; refine wpList_append_row (o := ⟨some 63, _, _, _, _, _⟩) (r := prR B) (w0 := w) (base := w6.heap.size) (v := v7) (n := k) (xs := css.flatten) (A := some ⟨b, off, none⟩) (m := l8.length - (k + 1)) (c := _) rfl _ _ 22 rfl Tryd.underlying22 hi0 hz0 hz1 hz2 rfl (Nat.zero_lt_succ 1) rfl hown8 HDl.out rfl hrD (chain b6 b67) (one_Pr B) (by have := HDl.out; unfold maxLen; omega) (by have := HDl.out; omega) (by have := b67.size; omega) ?_; intro dss v9 w9 hL9 hown9 hg9 _; have b69 : Below w6.heap.size w6 w9 := below_own b67 hg9 hown8 (Nat.le_refl _); obtain ⟨y0, y1, yl⟩ := BX.out w9 (chain hb36 b69); have hLM := hL.append hL9; have hown10 : w9.ownsRow w6.heap.size 43 2 v9 M.length (css ++ dss).flatten := (by rw [List.flatten_append, HMl.out]; exact hown9); obtain ⟨va, vc, rfl⟩ := own_form hown10; have b9 := chain b6 b69; have hrow := RowAt.of_own (B := B) hown10 rfl (show Lists (prR B) w9 (css ++ dss) M from by rw [HM.out]; exact hLM.later b9) (by have := HMl.out; have := HTl.out; have := HDl.out; omega); have Hrow := Lib.hid hrow; clear hg9 hown8 hown9 hown10 hrow hLM))
        have d1 := Selects_any B hB ⟨l8, []⟩ _ _ va vc M (by have := HMl.out; have := HTl.out; have := HDl.out; omega) w9 (RU.out w9 b9) (RN.out w9) Hrow.out.inn
        rw [HM.out, Hsel.out.1, ← HM.out] at d1
        refine d1.mono ?_
        rintro e w10 ⟨rfl, hb10⟩
        have d2 := Selects_any B hB ⟨M, []⟩ _ _ _ (k + 1) l8 (by omega) w10 (Hrow.out.later hb10) (RN.out w10) (hr8.later (chain b9 hb10))
        rw [HM.out, Hsel.out.2, ← HM.out] at d2
        go_wp2_with fail
        refine d2.mono ?_
        rintro e w11 ⟨rfl, hb11⟩
        go_wp2
        go_ret
        exact ⟨rfl, chain b9 (chain hb10 hb11)⟩
      · have hck2 : k + 1 < c := by omega
        go_wp2_with (first
          | (at_builtin; refine wpList_append_row (o := ⟨some 57, _, _, _, _, _⟩) (r := prR B) (w0 := w) (base := w6.heap.size) (v := .slice (some ⟨w6.heap.size, 0, none⟩) 0 0) (n := 0) (xs := []) (A := some ⟨b, off, none⟩) (m := k) (c := c) rfl _ _ 22 rfl Tryd.underlying22 hi0 hz0 hz1 hz2 rfl (Nat.zero_lt_succ 1) rfl hmade HTl.out rfl hrT b7 (one_Pr B) (by have := HTl.out; unfold maxLen; omega) (by have := HTl.out; omega) (by simp) ?_; intro css v7 w7 hL hown7 hg7 _; have b67 : Below w6.heap.size w6 w7 := below_own (below_new w6 _) hg7 hmade (Nat.le_refl _); have hown8 : w7.ownsRow w6.heap.size 43 2 v7 k css.flatten := (by have := HTl.out; rw [← this] at hown7; simpa [prR] using hown7); clear hg7 hown7 hmade)
          | (at_builtin; refine wpList_append_row (o := ⟨some 63, _, _, _, _, _⟩) (r := prR B) (w0 := w) (base := w6.heap.size) (v := v7) (n := k) (xs := css.flatten) (A := some ⟨b, off + (k + 1) * 2, none⟩) (m := l8.length - (k + 1)) (c := c - (k + 1)) rfl _ _ 22 rfl Tryd.underlying22 hi0 hz0 hz1 hz2 rfl (Nat.zero_lt_succ 1) rfl hown8 HDl.out rfl hrD (chain b6 b67) (one_Pr B) (by have := HDl.out; unfold maxLen; omega) (by have := HDl.out; omega) (by have := b67.size; omega) ?_; intro dss v9 w9 hL9 hown9 hg9 _; have b69 : Below w6.heap.size w6 w9 := below_own b67 hg9 hown8 (Nat.le_refl _); obtain ⟨y0, y1, yl⟩ := BX.out w9 (chain hb36 b69); have hLM := hL.append hL9; have hown10 : w9.ownsRow w6.heap.size 43 2 v9 M.length (css ++ dss).flatten := (by rw [List.flatten_append, HMl.out]; exact hown9); obtain ⟨va, vc, rfl⟩ := own_form hown10; have b9 := chain b6 b69; have hrow := RowAt.of_own (B := B) hown10 rfl (show Lists (prR B) w9 (css ++ dss) M from by rw [HM.out]; exact hLM.later b9) (by have := HMl.out; have := HTl.out; have := HDl.out; omega); have Hrow := Lib.hid hrow; clear hg9 hown8 hown9 hown10 hrow hLM))
        have d1 := Selects_any B hB ⟨l8, []⟩ _ _ va vc M (by have := HMl.out; have := HTl.out; have := HDl.out; omega) w9 (RU.out w9 b9) (RN.out w9) Hrow.out.inn
        rw [HM.out, Hsel.out.1, ← HM.out] at d1
        refine d1.mono ?_
        rintro e w10 ⟨rfl, hb10⟩
        have d2 := Selects_any B hB ⟨M, []⟩ _ _ _ c l8 (by omega) w10 (Hrow.out.later hb10) (RN.out w10) (hr8.later (chain b9 hb10))
        rw [HM.out, Hsel.out.2, ← HM.out] at d2
        go_wp2_with fail
        refine d2.mono ?_
        rintro e w11 ⟨rfl, hb11⟩
        go_wp2
        go_ret
        exact ⟨rfl, chain b9 (chain hb10 hb11)⟩
end Go.Proofs.YtodobacgbbpmfaaDoor.lab
