/- Layer 7: the law LabelHas. -/
import Derived.Test.YtodobacgbbpmfaaDoorLabAwake
namespace Go.Proofs.YtodobacgbbpmfaaDoor.lab
open Go.RowKit Go.Proofs.YtodobacgbbpmfaaDoor.rep

set_option maxRecDepth 100000 in
set_option maxHeartbeats 4000000 in
theorem lawHas (B : Nat) (hB : B ≤ 140737488355328) (hB2 : 100 ≤ B) (key qa qb : ByteArray) (u : Value) (l : List Pr) (w : World) (hk : key.size ≤ B) (ha : qa.size ≤ B) (hb : qb.size ≤ B) (hr : RowAt B (prR B) w u l) (hm : nam.MaxL w) :
    Calls Tryd.prog 8 #[.string key, .agg #[.string qa, .string qb], u] w fun e w' => e = .returned (.bool true) ∧ Below w.heap.size w w' := by
  obtain ⟨i0, hi0, hz0, hz1, hz2⟩ := info_parts info_Pr
  obtain ⟨a, c, rfl, hlc, hcm, hlB, hri⟩ := hr
  obtain ⟨m, hme⟩ : ∃ m, m = (l.take 8).length := ⟨_, rfl⟩
  have hm8 : m ≤ 8 := by rw [hme, List.length_take]; omega
  have cf := fun w => few_any a c l hlc hcm m hme w
  have hr8 : RowIn (prR B) w a (l.take 8) := hri.take 8
  generalize l.take 8 = l8 at *
  subst hme
  have ba : Below w.heap.size w (w.alloc (.cells #[.string qa, .string qb] 49)) := below_new _ _
  have c0 : (w.alloc (.cells #[.string qa, .string qb] 49)).cell? ⟨w.heap.size, 0, none⟩ = some (.string qa) := cell_new _ _ _ _
  have c1 : (w.alloc (.cells #[.string qa, .string qb] 49)).cell? ⟨w.heap.size, 1, none⟩ = some (.string qb) := cell_new _ _ _ _
  have lw := cell_lt c0
  have hap := has_append l8 key qa qb
  cases hh : hasB l8 key with
  | false =>
    have hno := (has_no hh).2
    rw [hh] at hap
    have Hm : Hid (hasB (l8 ++ [⟨key, qa⟩, ⟨key, qb⟩]) key = true ∧ hasV (l8 ++ [⟨key, qa⟩, ⟨key, qb⟩]) key = qa) := hap
    have Hl : Hid (hasB l8 key = false ∧ hasV l8 key = ⟨#[]⟩) := ⟨hh, hno⟩
    clear hap hno hh
    go_enter Tryd.func8, Tryd.ntmps8
    go_wp2_with fail
    refine (awake_any _ (hm.later ba)).mono ?_
    rintro e w1 ⟨rfl, hb1⟩
    have d0 := (hb1.cell (p := ⟨w.heap.size, 0, none⟩) lw).trans c0
    have d1 := (hb1.cell (p := ⟨w.heap.size, 1, none⟩) lw).trans c1
    have lw1 := cell_lt d0
    have b1 := chain ba hb1
    clear c0 c1 lw ba
    go_wp2_with fail
    refine (cf _).mono ?_
    rintro e w2 ⟨rfl, rfl⟩
    have b2 := chain b1 (below_new w1 (.cells #[] 43))
    have hmade := World.ownsRow_made (w := w1) (base := w1.heap.size) (e := 43) (size := 2) #[] 0 (Nat.le_refl _) (by decide) rfl
    go_wp2_with (first
      | (at_builtin; refine wpList_append_row (o := ⟨some 18, _, _, _, _, _⟩) (r := prR B) (w0 := w) (base := w1.heap.size) (v := .slice (some ⟨w1.heap.size, 0, none⟩) 0 0) (n := 0) (xs := []) (c := c) rfl _ _ 22 rfl Tryd.underlying22 hi0 hz0 hz1 hz2 rfl (Nat.zero_lt_succ 1) rfl hmade rfl hr8 b2 (one_Pr B) (by unfold maxLen; omega) (by omega) (by simp) ?_; intro css v3 w3 hL hown3 hg3 _; have b13 : Below w1.heap.size w1 w3 := below_own (below_new w1 _) hg3 hmade (Nat.le_refl _); have hown4 : w3.ownsRow w1.heap.size 43 2 v3 l8.length css.flatten := (by simpa [prR] using hown3); have f0 := (b13.cell (p := ⟨w.heap.size, 0, none⟩) lw1).trans d0; have f1 := (b13.cell (p := ⟨w.heap.size, 1, none⟩) lw1).trans d1; clear hg3 hown3 hmade)
      | (at_builtin; refine wpList_append_own_at (o := ⟨some 29, _, _, _, _, _⟩) _ rfl _ _ 22 rfl w1.heap.size 43 i0 _ 2 32 Tryd.underlying22 hi0 hz0 hz1 hz2 rfl (by decide) v3 l8.length css.flatten rfl (hown4.alloc _) ⟨w3.heap.size, 0, none⟩ 2 2 [.string key, .string qa, .string key, .string qb] rfl rfl (cells_new rfl _ _) (by intro u hu; simp only [List.mem_cons, List.not_mem_nil, or_false] at hu; rcases hu with rfl | rfl | rfl | rfl <;> rfl) (by unfold maxLen; omega) (by omega) (by have := b13.size; simp; omega) ?_; intro v5 w5 hown5 hg5 _ _; have b15 : Below w1.heap.size w1 w5 := below_own (chain b13 (below_new w3 (.cells #[.string key, .string qa, .string key, .string qb] 43))) hg5 (hown4.alloc _) (Nat.le_refl _); have g0 := (b15.cell (p := ⟨w.heap.size, 0, none⟩) lw1).trans d0; have hL5 := (hL.append ((Lists.one (pr_at (B := B) (W := w) (x := ⟨key, qa⟩) hk ha)).append (Lists.one (pr_at (x := ⟨key, qb⟩) hk hb)))).later (chain b1 b15); have hown6 := own_flat hown5 [[.string key, .string qa], [.string key, .string qb]] rfl; have hrow := RowAt.of_own (B := B) hown6 (by simp) hL5 (by simp; omega); obtain ⟨va, vc, rfl⟩ := own_form hown5; clear hg5 hown5 hown6 hL5))
    have cM := Has_any B hB va vc (l8 ++ [⟨key, qa⟩, ⟨key, qb⟩]) (by simp; omega) key w5 hrow.inn
    unfold HasTo at cM
    rw [Hm.out.1, Hm.out.2, List.length_append] at cM
    refine cM.mono ?_
    rintro e w7 ⟨rfl, hb7⟩
    have b17 := chain b15 hb7
    have cL := Has_any B hB a c l8 (by omega) key w7 (hr8.later (chain b1 b17))
    unfold HasTo at cL
    rw [Hl.out.1, Hl.out.2] at cL
    have h0 := (b17.cell (p := ⟨w.heap.size, 0, none⟩) lw1).trans d0
    go_wp2_with fail
    refine cL.mono ?_
    rintro e w8 ⟨rfl, hb8⟩
    have k0 := ((chain b17 hb8).cell (p := ⟨w.heap.size, 0, none⟩) lw1).trans d0
    go_wp2
    go_ret
    exact ⟨rfl, chain b1 (chain b17 hb8)⟩
  | true =>
    rw [hh] at hap
    have Hm : Hid (hasB (l8 ++ [⟨key, qa⟩, ⟨key, qb⟩]) key = true ∧ hasV (l8 ++ [⟨key, qa⟩, ⟨key, qb⟩]) key = hasV l8 key) := hap
    have Hl : Hid (hasB l8 key = true) := hh
    clear hap hh
    go_enter Tryd.func8, Tryd.ntmps8
    go_wp2_with fail
    refine (awake_any _ (hm.later ba)).mono ?_
    rintro e w1 ⟨rfl, hb1⟩
    have d0 := (hb1.cell (p := ⟨w.heap.size, 0, none⟩) lw).trans c0
    have d1 := (hb1.cell (p := ⟨w.heap.size, 1, none⟩) lw).trans c1
    have lw1 := cell_lt d0
    have b1 := chain ba hb1
    clear c0 c1 lw ba
    go_wp2_with fail
    refine (cf _).mono ?_
    rintro e w2 ⟨rfl, rfl⟩
    have b2 := chain b1 (below_new w1 (.cells #[] 43))
    have hmade := World.ownsRow_made (w := w1) (base := w1.heap.size) (e := 43) (size := 2) #[] 0 (Nat.le_refl _) (by decide) rfl
    go_wp2_with (first
      | (at_builtin; refine wpList_append_row (o := ⟨some 18, _, _, _, _, _⟩) (r := prR B) (w0 := w) (base := w1.heap.size) (v := .slice (some ⟨w1.heap.size, 0, none⟩) 0 0) (n := 0) (xs := []) (c := c) rfl _ _ 22 rfl Tryd.underlying22 hi0 hz0 hz1 hz2 rfl (Nat.zero_lt_succ 1) rfl hmade rfl hr8 b2 (one_Pr B) (by unfold maxLen; omega) (by omega) (by simp) ?_; intro css v3 w3 hL hown3 hg3 _; have b13 : Below w1.heap.size w1 w3 := below_own (below_new w1 _) hg3 hmade (Nat.le_refl _); have hown4 : w3.ownsRow w1.heap.size 43 2 v3 l8.length css.flatten := (by simpa [prR] using hown3); have f0 := (b13.cell (p := ⟨w.heap.size, 0, none⟩) lw1).trans d0; have f1 := (b13.cell (p := ⟨w.heap.size, 1, none⟩) lw1).trans d1; clear hg3 hown3 hmade)
      | (at_builtin; refine wpList_append_own_at (o := ⟨some 29, _, _, _, _, _⟩) _ rfl _ _ 22 rfl w1.heap.size 43 i0 _ 2 32 Tryd.underlying22 hi0 hz0 hz1 hz2 rfl (by decide) v3 l8.length css.flatten rfl (hown4.alloc _) ⟨w3.heap.size, 0, none⟩ 2 2 [.string key, .string qa, .string key, .string qb] rfl rfl (cells_new rfl _ _) (by intro u hu; simp only [List.mem_cons, List.not_mem_nil, or_false] at hu; rcases hu with rfl | rfl | rfl | rfl <;> rfl) (by unfold maxLen; omega) (by omega) (by have := b13.size; simp; omega) ?_; intro v5 w5 hown5 hg5 _ _; have b15 : Below w1.heap.size w1 w5 := below_own (chain b13 (below_new w3 (.cells #[.string key, .string qa, .string key, .string qb] 43))) hg5 (hown4.alloc _) (Nat.le_refl _); have g0 := (b15.cell (p := ⟨w.heap.size, 0, none⟩) lw1).trans d0; have hL5 := (hL.append ((Lists.one (pr_at (B := B) (W := w) (x := ⟨key, qa⟩) hk ha)).append (Lists.one (pr_at (x := ⟨key, qb⟩) hk hb)))).later (chain b1 b15); have hown6 := own_flat hown5 [[.string key, .string qa], [.string key, .string qb]] rfl; have hrow := RowAt.of_own (B := B) hown6 (by simp) hL5 (by simp; omega); obtain ⟨va, vc, rfl⟩ := own_form hown5; clear hg5 hown5 hown6 hL5))
    have cM := Has_any B hB va vc (l8 ++ [⟨key, qa⟩, ⟨key, qb⟩]) (by simp; omega) key w5 hrow.inn
    unfold HasTo at cM
    rw [Hm.out.1, Hm.out.2, List.length_append] at cM
    refine cM.mono ?_
    rintro e w7 ⟨rfl, hb7⟩
    have b17 := chain b15 hb7
    have cL := Has_any B hB a c l8 (by omega) key w7 (hr8.later (chain b1 b17))
    unfold HasTo at cL
    rw [Hl.out] at cL
    generalize hasV l8 key = z at *
    have h0 := (b17.cell (p := ⟨w.heap.size, 0, none⟩) lw1).trans d0
    go_wp2_with fail
    refine cL.mono ?_
    rintro e w8 ⟨rfl, hb8⟩
    have k0 := ((chain b17 hb8).cell (p := ⟨w.heap.size, 0, none⟩) lw1).trans d0
    go_wp2
    go_ret
    exact ⟨rfl, chain b1 (chain b17 hb8)⟩
end Go.Proofs.YtodobacgbbpmfaaDoor.lab
