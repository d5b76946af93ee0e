/- Layer 3: plain mathematics: how the kinds of names lie within each other; names put together; single bytes; long names. Nothing of the program. -/
import Derived.Test.YthflpgeonllgdaaDoorNamPure
namespace Go.Proofs.YthflpgeonllgdaaDoor.nam

theorem madeB_struct {E I : Nat → Bool} (hEI : ∀ b, E b = true → I b = true) {l : List UInt8} :
    madeB E I l = true ↔ (∀ b ∈ l, I b.toNat = true) ∧ (∀ b, l.head? = some b → E b.toNat = true) ∧ (∀ b, l.getLast? = some b → E b.toNat = true) := by
  have hg : ∀ i (h : i < l.length), l.getD i 0 = l[i] := fun i h => by rw [List.getD_eq_getElem?_getD, List.getElem?_eq_getElem h]; rfl
  rw [madeB_iff]
  constructor
  · intro h
    refine ⟨fun b hb => ?_, fun b hb => ?_, fun b hb => ?_⟩
    · obtain ⟨i, hi, rfl⟩ := List.getElem_of_mem hb
      have := h i hi
      unfold tst at this
      rw [hg i hi] at this
      split at this
      · exact hEI _ this
      · exact this
    · rw [List.head?_eq_getElem?] at hb
      obtain ⟨hi, rfl⟩ := List.getElem?_eq_some_iff.1 hb
      have := h 0 hi
      unfold tst at this
      rw [if_pos (.inl rfl), hg 0 hi] at this
      exact this
    · rw [List.getLast?_eq_getElem?] at hb
      obtain ⟨hi, rfl⟩ := List.getElem?_eq_some_iff.1 hb
      have := h (l.length - 1) hi
      unfold tst at this
      rw [if_pos (.inr (by omega)), hg _ hi] at this
      exact this
  · rintro ⟨h1, h2, h3⟩ i hi
    unfold tst
    rw [hg i hi]
    split
    · rename_i he
      rcases he with rfl | he
      · exact h2 _ (by rw [List.head?_eq_getElem?, List.getElem?_eq_getElem hi])
      · exact h3 _ (by rw [List.getLast?_eq_getElem?, List.getElem?_eq_getElem (by omega)]; congr 2; omega)
    · exact h1 _ (List.getElem_mem hi)
theorem madeB_all {E I : Nat → Bool} {l : List UInt8} (h : ∀ b ∈ l, E b.toNat = true ∧ I b.toNat = true) : madeB E I l = true :=
  madeB_iff.2 fun i hi => by
    have hg : l.getD i 0 = l[i] := by rw [List.getD_eq_getElem?_getD, List.getElem?_eq_getElem hi]; rfl
    have := h _ (List.getElem_mem hi)
    unfold tst
    rw [hg]
    split
    · exact this.1
    · exact this.2
theorem madeB_mem {P : Nat → Bool} {l : List UInt8} : madeB P P l = true ↔ ∀ b ∈ l, P b.toNat = true := by
  rw [madeB_struct (fun _ h => h)]
  exact ⟨fun h => h.1, fun h => ⟨h, fun b hb => h b (List.mem_of_mem_head? hb), fun b hb => h b (List.mem_of_mem_getLast? hb)⟩⟩

theorem edge_or (J : Nat → Bool) (E : Nat → Bool) : ∀ b, E b = true → orB E J b = true := fun b h => by unfold orB; rw [h]; rfl
theorem edgeV_of {b : Nat} (h : edgeL b = true) : edgeV b = true := by
  unfold edgeL orB at h; unfold edgeV orB; revert h; cases smallB b <;> cases digitB b <;> simp
theorem labB_iff {l : List UInt8} : labB l = true ↔ (1 ≤ l.length ∧ l.length ≤ 63) ∧ (∀ b ∈ l, orB edgeL dashB b.toNat = true) ∧ (∀ b, l.head? = some b → edgeL b.toNat = true) ∧ (∀ b, l.getLast? = some b → edgeL b.toNat = true) := by
  unfold labB; rw [Bool.and_eq_true_iff, madeB_struct (edge_or dashB edgeL)]; simp
theorem valB_iff2 {l : List UInt8} : valB l = true ↔ l.length ≤ 63 ∧ (∀ b ∈ l, orB edgeV joinB b.toNat = true) ∧ (∀ b, l.head? = some b → edgeV b.toNat = true) ∧ (∀ b, l.getLast? = some b → edgeV b.toNat = true) := by
  unfold valB; rw [Bool.and_eq_true_iff, madeB_struct (edge_or joinB edgeV)]; simp
theorem subB_iff {l : List UInt8} : subB l = true ↔ l.length ≤ 253 ∧ ∀ x ∈ spl 46 l, labB x = true := by
  unfold subB; rw [Bool.and_eq_true_iff, List.all_eq_true]; simp

theorem spl_single {c : UInt8} : ∀ {l : List UInt8}, c ∉ l → spl c l = [l]
  | [], _ => rfl
  | b :: l, h => by
    have hb : b ≠ c := fun e => h (by rw [e]; simp)
    rw [spl, if_neg hb, spl_single (l := l) (fun e => h (by simp [e]))]
theorem spl_app {c : UInt8} : ∀ (a b : List UInt8), spl c (a ++ c :: b) = spl c a ++ spl c b
  | [], b => by rw [List.nil_append, spl_eq]; rfl
  | x :: a, b => by
    have ih := spl_app (c := c) a b
    by_cases h : x = c
    · subst h; rw [List.cons_append, spl_eq, spl_eq, ih]; rfl
    · obtain ⟨y, t, e1, e2⟩ := spl_cons (l := a) h
      rw [List.cons_append, spl, if_neg h, ih, e2, e1]; rfl
theorem spl_mem {c : UInt8} : ∀ {l : List UInt8} {b : UInt8}, b ∈ l → b = c ∨ ∃ p ∈ spl c l, b ∈ p
  | x :: l, b, h => by
    by_cases hx : x = c
    · subst hx
      rcases List.mem_cons.1 h with rfl | h
      · exact .inl rfl
      · rcases spl_mem h with e | ⟨p, hp, hb⟩
        · exact .inl e
        · exact .inr ⟨p, by rw [spl_eq]; simp [hp], hb⟩
    · obtain ⟨y, t, e1, e2⟩ := spl_cons (l := l) hx
      rcases List.mem_cons.1 h with rfl | h
      · exact .inr ⟨b :: y, by rw [e2]; simp, by simp⟩
      · rcases spl_mem h with e | ⟨p, hp, hb⟩
        · exact .inl e
        · rw [e1] at hp
          rcases List.mem_cons.1 hp with rfl | hp
          · exact .inr ⟨x :: p, by rw [e2]; simp, by simp [hb]⟩
          · exact .inr ⟨p, by rw [e2]; simp [hp], hb⟩
theorem spl_head {c : UInt8} {l x : List UInt8} {t : List (List UInt8)} (h : spl c l = x :: t) (hx : x ≠ []) : l.head? = x.head? := by
  cases l with
  | nil => simp [spl] at h; exact absurd h.1 hx
  | cons b l =>
    by_cases hb : b = c
    · subst hb; rw [spl_eq] at h; exact absurd (List.cons.inj h).1.symm hx
    · obtain ⟨y, t', e1, e2⟩ := spl_cons (l := l) hb
      rw [e2] at h
      rw [← (List.cons.inj h).1]; rfl
theorem spl_last {c : UInt8} {l y : List UInt8} {t : List (List UInt8)} (h : spl c l = t ++ [y]) (hy : y ≠ []) : l.getLast? = y.getLast? := by
  rcases List.eq_nil_or_concat l with rfl | ⟨l', b, rfl⟩
  · simp [spl] at h
    have := congrArg List.getLast? h
    simp at this
    exact absurd this hy
  · rw [List.concat_eq_append] at *
    obtain ⟨init, last, h1, h2, h3⟩ := spl_snoc c l'
    by_cases hb : b = c
    · subst hb; rw [h2] at h
      have := congrArg List.getLast? h
      simp at this
      exact absurd this hy
    · rw [h3 b hb] at h
      have := congrArg List.getLast? h
      simp at this
      rw [← this]; simp

theorem lab_ne {x : List UInt8} (h : labB x = true) : x ≠ [] := by
  rintro rfl
  have := (labB_iff.1 h).1.1
  simp at this
theorem lab_sub {l : List UInt8} (h : labB l = true) : subB l = true := by
  have hl := labB_iff.1 h
  have hd : (46 : UInt8) ∉ l := fun e => by have := hl.2.1 _ e; revert this; decide
  rw [subB_iff, spl_single hd]
  exact ⟨by omega, fun x hx => by simp at hx; rw [hx]; exact h⟩
theorem sub_val {l : List UInt8} (h : subB l = true) (hl : l.length ≤ 63) : valB l = true := by
  have h2 := (subB_iff.1 h).2
  refine valB_iff2.2 ⟨hl, fun b hb => ?_, fun b hb => ?_, fun b hb => ?_⟩
  · rcases spl_mem (c := 46) hb with rfl | ⟨p, hp, hbp⟩
    · decide
    · have := (labB_iff.1 (h2 p hp)).2.1 b hbp
      unfold orB at this ⊢
      rcases Bool.or_eq_true_iff.1 this with h | h
      · rw [edgeV_of h]; rfl
      · have h' : joinB b.toNat = true := by unfold dashB at h; unfold joinB; exact decide_eq_true (.inl (of_decide_eq_true h))
        rw [h', Bool.or_true]
  · cases e : spl 46 l with
    | nil => exact absurd e (spl_ne 46 l)
    | cons x t =>
      have hx := h2 x (by rw [e]; simp)
      rw [spl_head e (lab_ne hx)] at hb
      exact edgeV_of ((labB_iff.1 hx).2.2.1 b hb)
  · obtain ⟨t, y, e⟩ : ∃ t y, spl 46 l = t ++ [y] := ⟨_, _, (List.dropLast_concat_getLast (spl_ne 46 l)).symm⟩
    have hy := h2 y (by rw [e]; simp)
    rw [spl_last e (lab_ne hy)] at hb
    exact edgeV_of ((labB_iff.1 hy).2.2.2 b hb)
theorem pathB_iff {l : List UInt8} : pathB l = true ↔ (1 ≤ l.length ∧ l.length ≤ 512) ∧ l.head? = some 47 ∧ ∀ b ∈ l, seenB b.toNat = true := by
  unfold pathB Lib.hasPrefix
  rw [Bool.and_eq_true_iff, Bool.and_eq_true_iff, madeB_mem]
  cases l with
  | nil => simp
  | cons a l =>
    have e : (47 == a) = true ↔ a = 47 := by rw [beq_iff_eq]; exact eq_comm
    simp only [List.isPrefixOf, Bool.and_true, List.head?_cons, Option.some.injEq, Bool.and_eq_true_iff, decide_eq_true_iff, e]
    exact and_assoc
theorem segB_iff {l : List UInt8} : segB l = true ↔ (1 ≤ l.length ∧ l.length ≤ 253) ∧ (∀ b ∈ l, seenB b.toNat = true ∧ partB b.toNat = false) ∧ l ≠ [46] ∧ l ≠ [46, 46] := by
  unfold segB
  rw [Bool.and_eq_true_iff, Bool.and_eq_true_iff, Bool.and_eq_true_iff, madeB_mem]
  unfold butB
  simp [and_assoc]
theorem seg_path {l : List UInt8} (h : segB l = true) : pathB (47 :: l) = true := by
  have hs := segB_iff.1 h
  refine pathB_iff.2 ⟨by simp; omega, rfl, fun b hb => ?_⟩
  rcases List.mem_cons.1 hb with rfl | hb
  · decide
  · exact (hs.2.1 b hb).1
theorem verb_lab {l : List UInt8} (h : verbB l = true) : labB l = true := by
  unfold verbB at h
  rw [Bool.and_eq_true_iff, madeB_mem] at h
  have hl : 1 ≤ l.length ∧ l.length ≤ 32 := by simpa using h.1
  have he : ∀ b ∈ l, edgeL b.toNat = true := fun b hb => by have := h.2 b hb; unfold edgeL orB; rw [this]; rfl
  unfold labB
  rw [madeB_all fun b hb => ⟨he b hb, edge_or _ _ _ (he b hb)⟩, decide_eq_true hl.1, decide_eq_true (by omega : l.length ≤ 63)]
  rfl
theorem cut_none {c : UInt8} {l : List UInt8} (h : c ∉ l) : (Lib.cut l [c]).2.2 = false := by
  rcases spl_cut c l with ⟨h1, _⟩ | ⟨_, _, h3⟩
  · exact h1
  · exact absurd (by rw [h3]; simp) h
theorem cut_first {c : UInt8} {a b : List UInt8} (h : c ∉ a) : Lib.cut (a ++ c :: b) [c] = (a, b, true) := by
  have hi : ∀ a : List UInt8, c ∉ a → Lib.index (a ++ c :: b) [c] = (a.length : Int) := fun a => by
    induction a with
    | nil => intro _; rw [List.nil_append, Lib.index]; simp [List.isPrefixOf]
    | cons x a ih =>
      intro h
      have hx : x ≠ c := fun e => h (by rw [e]; simp)
      have ih := ih (fun e => h (by simp [e]))
      have h1 : ¬ (((a.length : Nat) : Int) == -1) = true := fun e => by have := beq_iff_eq.1 e; omega
      rw [List.cons_append, index_ne hx, ih, if_neg h1, List.length_cons]; omega
  unfold Lib.cut
  rw [hi a h, if_pos (by omega)]
  simp
theorem spl_free {c : UInt8} : ∀ {l : List UInt8} {p : List UInt8}, p ∈ spl c l → c ∉ p
  | [], p, h => by simp [spl] at h; rw [h]; simp
  | x :: l, p, h => by
    by_cases hx : x = c
    · subst hx
      rw [spl_eq] at h
      rcases List.mem_cons.1 h with rfl | h
      · simp
      · exact spl_free h
    · obtain ⟨y, t, e1, e2⟩ := spl_cons (l := l) hx
      rw [e2] at h
      rcases List.mem_cons.1 h with rfl | h
      · intro e
        rcases List.mem_cons.1 e with e | e
        · exact hx e.symm
        · exact spl_free (l := l) (p := y) (by rw [e1]; simp) e
      · exact spl_free (l := l) (p := p) (by rw [e1]; simp [h])
theorem val_key {l : List UInt8} (h : l ≠ []) : valB l = (keyB l && decide ((spl 47 l).length = 1)) := by
  have hne : (l == []) = false := beq_eq_false_iff_ne.2 h
  by_cases hd : (47 : UInt8) ∈ l
  · rw [valB_no (c := 47) (by decide) hd]
    rcases spl_cut 47 l with ⟨_, h2⟩ | ⟨_, h2, _⟩
    · exact absurd hd (spl_free (l := l) (p := l) (by rw [h2]; simp))
    · rw [h2]
      have := List.length_pos_iff.2 (spl_ne 47 (Lib.cut l [47]).2.1)
      rw [decide_eq_false (by rw [List.length_cons]; omega), Bool.and_false]
  · have hk : keyB l = valB l := by unfold keyB; rw [cut_none hd]; simp [keyNameB, hne]
    rw [hk, spl_single hd]; simp
end Go.Proofs.YthflpgeonllgdaaDoor.nam
