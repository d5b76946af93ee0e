/- Layer 4: a value that may be is what its row makes; what a value that may be has besides. Pure. Layer 4: canonical values: again, turned round, and how many and how deep. Pure. -/
import Derived.Test.YteocenjneoclbaaDoorTrmRMake
import Derived.Test.YteocenjneoclbaaDoorTrmSymG
namespace Go.Proofs.YteocenjneoclbaaDoor.tre
open Go.RowKit Go.Shelf

theorem loop_list (d : Int) (tl : List It) (htl : ∀ y, tl.head? = some y → y.d ≤ d + 1) : ∀ (xs : List (V)) (L : List It) (N : Nat) (m : V), 0 < N → L.drop N = xs.flatMap (fun x => rowV x (d + 1) ⟨#[]⟩) ++ tl → (xs ≠ [] → m.kind = 4) →
    (∀ x ∈ xs, ∀ rest : List It, (∀ y, rest.head? = some y → y.d ≤ d + 1) → madeV (rowV x (d + 1) ⟨#[]⟩ ++ rest) (d + 1) = some (x, countV x)) →
    loopV L d m N = loopV L d (.mk m.kind m.int m.text (m.list ++ xs) m.fields) (N + sumN (xs.map fun x => countV x)) ∧ L.drop (N + sumN (xs.map fun x => countV x)) = tl := by
  intro xs
  induction xs with
  | nil =>
    intro L N m _ hd _ _
    refine ⟨?_, by simpa [sumN] using hd⟩
    cases m
    simp [sumN, V.kind, V.int, V.text, V.list, V.fields]
  | cons x xs ih =>
    intro L N m h0 hd hk hm
    have hrest : ∀ y, (xs.flatMap (fun x => rowV x (d + 1) ⟨#[]⟩) ++ tl).head? = some y → y.d ≤ d + 1 := fun y hy => by
      cases xs with
      | nil => exact htl y (by simpa using hy)
      | cons z zs =>
        simp only [List.flatMap_cons] at hy
        rw [rowV_eq] at hy
        simp only [List.cons_append, List.head?_cons, Option.some.injEq] at hy
        subst hy
        exact Int.le_refl _
    rw [List.flatMap_cons, List.append_assoc] at hd
    have hmx := hm x (List.mem_cons_self ..) _ hrest
    rw [← hd] at hmx
    have hlen : N < L.length := by
      rcases Nat.lt_or_ge N L.length with h | h
      · exact h
      · rw [List.drop_eq_nil_of_le h, rowV_eq] at hd
        cases hd
    have hat : L[N] = itOf x ⟨#[]⟩ (d + 1) := by
      have h2 := hd
      rw [List.drop_eq_getElem_cons hlen, rowV_eq, List.cons_append] at h2
      exact (List.cons.inj h2).1
    have hpos : ¬ countV x = 0 := by have := countV_eq x; omega
    have hdr : L.drop (N + countV x) = xs.flatMap (fun x => rowV x (d + 1) ⟨#[]⟩) ++ tl := by
      rw [← List.drop_drop, hd, ← rowV_len x (d + 1) ⟨#[]⟩, List.drop_left]
    have hkk := hk (by simp)
    rw [loop_in L d m N h0 hlen (by rw [hat]; show d < d + 1; omega), hmx]
    simp only [if_neg hpos]
    have hke : L[N].key.toList.isEmpty = true := by
      rw [hat]
      show (ByteArray.toList ⟨#[]⟩).isEmpty = true
      decide +kernel
    rw [if_pos hkk, if_pos hke]
    obtain ⟨h1, h2⟩ := ih L (N + countV x) (addL m x) (by omega) hdr (fun _ => hkk) (fun z hz => hm z (List.mem_cons_of_mem _ hz))
    have hs : N + countV x + sumN (xs.map fun x => countV x) = N + sumN ((x :: xs).map fun x => countV x) := by
      simp only [List.map_cons, sumN]; omega
    rw [hs] at h1 h2
    refine ⟨h1.trans ?_, h2⟩
    simp [addL, V.kind, V.int, V.text, V.list, V.fields]

theorem loop_fields (d : Int) (tl : List It) (htl : ∀ y, tl.head? = some y → y.d ≤ d + 1) : ∀ (xs : List (ByteArray × V)) (L : List It) (N : Nat) (m : V), 0 < N → L.drop N = xs.flatMap (fun x => rowV x.2 (d + 1) x.1) ++ tl → (xs ≠ [] → m.kind = 5) →
    (∀ x ∈ xs, ∀ rest : List It, (∀ y, rest.head? = some y → y.d ≤ d + 1) → madeV (rowV x.2 (d + 1) x.1 ++ rest) (d + 1) = some (x.2, countV x.2)) →
    loopV L d m N = loopV L d (.mk m.kind m.int m.text m.list (m.fields ++ xs)) (N + sumN (xs.map fun x => countV x.2)) ∧ L.drop (N + sumN (xs.map fun x => countV x.2)) = tl := by
  intro xs
  induction xs with
  | nil =>
    intro L N m _ hd _ _
    refine ⟨?_, by simpa [sumN] using hd⟩
    cases m
    simp [sumN, V.kind, V.int, V.text, V.list, V.fields]
  | cons x xs ih =>
    intro L N m h0 hd hk hm
    have hrest : ∀ y, (xs.flatMap (fun x => rowV x.2 (d + 1) x.1) ++ tl).head? = some y → y.d ≤ d + 1 := fun y hy => by
      cases xs with
      | nil => exact htl y (by simpa using hy)
      | cons z zs =>
        simp only [List.flatMap_cons] at hy
        rw [rowV_eq] at hy
        simp only [List.cons_append, List.head?_cons, Option.some.injEq] at hy
        subst hy
        exact Int.le_refl _
    rw [List.flatMap_cons, List.append_assoc] at hd
    have hmx := hm x (List.mem_cons_self ..) _ hrest
    rw [← hd] at hmx
    have hlen : N < L.length := by
      rcases Nat.lt_or_ge N L.length with h | h
      · exact h
      · rw [List.drop_eq_nil_of_le h, rowV_eq] at hd
        cases hd
    have hat : L[N] = itOf x.2 x.1 (d + 1) := by
      have h2 := hd
      rw [List.drop_eq_getElem_cons hlen, rowV_eq, List.cons_append] at h2
      exact (List.cons.inj h2).1
    have hpos : ¬ countV x.2 = 0 := by have := countV_eq x.2; omega
    have hdr : L.drop (N + countV x.2) = xs.flatMap (fun x => rowV x.2 (d + 1) x.1) ++ tl := by
      rw [← List.drop_drop, hd, ← rowV_len x.2 (d + 1) x.1, List.drop_left]
    have hkk := hk (by simp)
    rw [loop_in L d m N h0 hlen (by rw [hat]; show d < d + 1; omega), hmx]
    simp only [if_neg hpos]
    rw [if_neg (show ¬ m.kind = 4 by omega), if_pos hkk, show L[N].key = x.1 by rw [hat]; rfl]
    obtain ⟨h1, h2⟩ := ih L (N + countV x.2) (addF m x.1 x.2) (by omega) hdr (fun _ => hkk) (fun z hz => hm z (List.mem_cons_of_mem _ hz))
    have hs : N + countV x.2 + sumN (xs.map fun x => countV x.2) = N + sumN ((x :: xs).map fun x => countV x.2) := by
      simp only [List.map_cons, sumN]; omega
    rw [hs] at h1 h2
    refine ⟨h1.trans ?_, h2⟩
    simp [addF, V.kind, V.int, V.text, V.list, V.fields]

theorem kinds_of {v : V} (h : headB v = true) : (v.list ≠ [] → v.kind = 4) ∧ (v.fields ≠ [] → v.kind = 5) := by
  unfold headB at h
  simp only [Bool.and_eq_true, Bool.or_eq_true, decide_eq_true_eq, beq_iff_eq] at h
  obtain ⟨⟨⟨⟨_, h1⟩, h2⟩, _⟩, _⟩ := h
  exact ⟨fun hn => h1.resolve_left (fun e => hn (List.eq_nil_of_length_eq_zero e)), fun hn => h2.resolve_left (fun e => hn (List.eq_nil_of_length_eq_zero e))⟩
theorem shape_parts {v : V} (h : shapeV v = true) : headB v = true ∧ (∀ x ∈ v.list, shapeV x = true) ∧ keysB v.fields = true ∧ ∀ g ∈ v.fields, shapeV g.2 = true := by
  rw [shapeV_eq] at h
  simp only [Bool.and_eq_true, List.all_eq_true] at h
  exact ⟨h.1, h.2.1, h.2.2.1, h.2.2.2⟩
theorem made_row : ∀ v : V, shapeV v = true → ∀ (d : Int) (key : ByteArray) (rest : List It), (∀ y, rest.head? = some y → y.d ≤ d) → madeV (rowV v d key ++ rest) d = some (v, countV v) := V.ind fun v ihl ihf => by
  intro hs d key rest hr
  obtain ⟨hh, hsl, _, hsf⟩ := shape_parts hs
  obtain ⟨hk4, hk5⟩ := kinds_of hh
  have hL : ∃ L, L = rowV v d key ++ rest := ⟨_, rfl⟩
  obtain ⟨L, hL⟩ := hL
  have hmade : madeV L d = loopV L d (leafV (itOf v key d)) 1 := by
    rw [hL, rowV_eq, List.cons_append]
    exact if_pos rfl
  have hdr : L.drop 1 = v.list.flatMap (fun x => rowV x (d + 1) ⟨#[]⟩) ++ (v.fields.flatMap (fun x => rowV x.2 (d + 1) x.1) ++ rest) := by
    rw [hL, rowV_eq, List.cons_append, List.drop_succ_cons, List.drop_zero, List.append_assoc]
  have htl : ∀ y, (v.fields.flatMap (fun x => rowV x.2 (d + 1) x.1) ++ rest).head? = some y → y.d ≤ d + 1 := fun y hy => by
    cases hf : v.fields with
    | nil =>
      rw [hf] at hy
      have := hr y (by simpa using hy)
      omega
    | cons z zs =>
      rw [hf] at hy
      simp only [List.flatMap_cons] at hy
      rw [rowV_eq] at hy
      simp only [List.cons_append, List.head?_cons, Option.some.injEq] at hy
      subst hy
      exact Int.le_refl _
  obtain ⟨h1, h2⟩ := loop_list d _ htl v.list L 1 (leafV (itOf v key d)) Nat.one_pos hdr hk4 (fun x hx rest hrest => ihl x hx (hsl x hx) (d + 1) ⟨#[]⟩ rest hrest)
  obtain ⟨h3, h4⟩ := loop_fields d rest (fun y hy => by have := hr y hy; omega) v.fields L _ (.mk v.kind v.int v.text ([] ++ v.list) []) (by omega) h2 hk5 (fun x hx rest hrest => ihf x hx (hsf x hx) (d + 1) x.1 rest hrest)
  rw [← hL, hmade, h1]
  refine h3.trans ?_
  rw [loop_out _ _ _ _ (fun hlt hd => ?_)]
  · have hc : countV v = sumN (v.list.map fun x => countV x) + sumN (v.fields.map fun x => countV x.2) + 1 := countV_eq v
    have e : (V.mk v.kind v.int v.text ([] ++ v.list) ([] ++ v.fields)) = v := by simpa using v.eta
    show some (V.mk v.kind v.int v.text ([] ++ v.list) ([] ++ v.fields), _) = _
    rw [e, show 1 + sumN (v.list.map fun x => countV x) + sumN (v.fields.map fun x => countV x.2) = countV v by omega]
  · have h5 := hr _ (by rw [← h4, List.head?_drop, List.getElem?_eq_getElem hlt])
    omega
theorem row_depths : ∀ (v : V) (d : Int) (key : ByteArray), ∀ y ∈ rowV v d key, d ≤ y.d ∧ y.d < d + depthV v := V.ind fun v ihl ihf => by
  intro d key y hy
  have hd := depthV_eq v
  rw [rowV_eq, List.mem_cons, List.mem_append, List.mem_flatMap, List.mem_flatMap] at hy
  rcases hy with rfl | ⟨x, hx, hy⟩ | ⟨g, hg, hy⟩
  · exact ⟨Int.le_refl _, by show d < d + _; omega⟩
  · have h1 := ihl x hx (d + 1) _ y hy
    have h2 := depth_list hx
    omega
  · have h1 := ihf g hg (d + 1) _ y hy
    have h2 := depth_fields hg
    omega
theorem check_parts {v : V} (h : checkR v = true) : depthV v ≤ 12 ∧ countV v ≤ 2000 ∧ shapeV v = true := by
  unfold checkR at h
  simp only [Bool.and_eq_true, decide_eq_true_eq] at h
  exact ⟨h.1.1, h.1.2, h.2⟩
theorem makeR_row (v : V) (h : checkR v = true) : makeR (rowV v 0 ⟨#[]⟩) = (v, true) := by
  obtain ⟨h1, h2, h3⟩ := check_parts h
  have hm := made_row v h3 0 ⟨#[]⟩ [] (fun y hy => by cases hy)
  rw [List.append_nil] at hm
  have hmr : madeR (rowV v 0 ⟨#[]⟩) 0 = (v, countV v) := by unfold madeR; rw [hm]
  have hbad : (rowV v 0 ⟨#[]⟩).any badIt = false := by
    rw [List.any_eq_false]
    intro y hy
    have := row_depths v 0 ⟨#[]⟩ y hy
    unfold badIt
    simp only [Bool.or_eq_true, decide_eq_true_eq]
    omega
  have hlen := rowV_len v 0 ⟨#[]⟩
  generalize hr : rowV v 0 ⟨#[]⟩ = r at hmr hbad hlen
  match r, hr with
  | [], hr => rw [rowV_eq] at hr; cases hr
  | x :: r, hr =>
    have hx : x.key = ⟨#[]⟩ := by rw [rowV_eq] at hr; rw [← (List.cons.inj hr).1]; rfl
    unfold makeR
    simp only
    rw [if_neg (by rw [hbad, hx]; decide +kernel), if_pos (by rw [hmr]; exact ⟨hlen.symm, h⟩), hmr]
theorem small_make (l : List It) (hs : ∀ y ∈ l, y.key.size ≤ 1000 ∧ y.text.size ≤ 1000) : smallV (makeR l).1 = true := by
  have h0 : smallV nilV = true := by decide +kernel
  unfold makeR
  split
  · exact h0
  · rename_i x r
    split
    · exact h0
    · split
      · show smallV (madeR (x :: r) 0).1 = true
        unfold madeR
        split
        · rename_i z hz
          exact madeV_small _ hs 0 z.1 z.2 hz
        · exact h0
      · exact h0
theorem distB_nodup : ∀ l : List (List UInt8), distB l = true → l.Nodup
  | [], _ => List.nodup_nil
  | k :: r, h => by
    unfold distB at h
    simp only [Bool.and_eq_true, Bool.not_eq_true', List.contains_eq_mem, decide_eq_false_iff_not] at h
    exact List.nodup_cons.2 ⟨h.1, distB_nodup r h.2⟩
theorem ok_of_shape : ∀ v : V, shapeV v = true → countV v ≤ 100000 → okC v := V.ind fun v ihl ihf => by
  intro hs hc
  obtain ⟨_, hsl, hk, hsf⟩ := shape_parts hs
  have hcv := countV_eq v
  have h1 := len_count countV (fun x => by have := countV_eq x; omega) v.list
  have h2 := len_count (fun g : ByteArray × V => countV g.2) (fun x => by have := countV_eq x.2; omega) v.fields
  refine (okC_eq v).2 ⟨by omega, by omega, ?_, fun x hx => ihl x hx (hsl x hx) ?_, fun g hg => ihf g hg (hsf g hg) ?_⟩
  · unfold keysB at hk
    rw [Bool.and_eq_true] at hk
    have h3 := distB_nodup _ hk.2
    rw [show (fun g : ByteArray × V => g.1.data.toList) = (fun k : ByteArray => k.data.toList) ∘ (·.1) from rfl, ← List.map_map] at h3
    exact List.Pairwise.of_map (fun k : ByteArray => k.data.toList) (fun a b hab e => hab (by rw [e])) h3
  · have := sum_ge countV v.list x hx; omega
  · have := sum_ge (fun g : ByteArray × V => countV g.2) v.fields g hg; omega
theorem ok_of_check {v : V} (h : checkR v = true) : okC v := ok_of_shape v (check_parts h).2.2 (by have := (check_parts h).2.1; omega)
theorem row_small : ∀ (v : V) (d : Int) (key : ByteArray), key.size ≤ 1000 → smallV v = true → ∀ y ∈ rowV v d key, y.key.size ≤ 1000 ∧ y.text.size ≤ 1000 := V.ind fun v ihl ihf => by
  intro d key hk hs y hy
  obtain ⟨h1, h2, h3⟩ := (smallV_eq v).1 hs
  rw [rowV_eq, List.mem_cons, List.mem_append, List.mem_flatMap, List.mem_flatMap] at hy
  rcases hy with rfl | ⟨x, hx, hy⟩ | ⟨g, hg, hy⟩
  · exact ⟨hk, h1⟩
  · exact ihl x hx (d + 1) _ (by decide) (h2 x hx) y hy
  · exact ihf g hg (d + 1) _ (h3 g hg).1 (h3 g hg).2 y hy
end Go.Proofs.YteocenjneoclbaaDoor.tre
namespace Go.Proofs.YteocenjneoclbaaDoor.tre
open Go.RowKit Go.Shelf

theorem sumN_perm {l m : List Nat} (h : l.Perm m) : sumN l = sumN m := by
  induction h with
  | nil => rfl
  | cons x _ ih => simp only [sumN, ih]
  | swap x y l => simp only [sumN]; omega
  | trans _ _ ih1 ih2 => rw [ih1, ih2]
theorem maxN_perm {l m : List Nat} (h : l.Perm m) : maxN l = maxN m := by
  induction h with
  | nil => rfl
  | cons x _ ih => simp only [maxN, ih]
  | swap x y l => simp only [maxN]; omega
  | trans _ _ ih1 ih2 => rw [ih1, ih2]
theorem canon_parts (v : V) : (canonV v).kind = v.kind ∧ (canonV v).int = v.int ∧ (canonV v).text = v.text ∧ (canonV v).list = v.list.map canonV ∧ (canonV v).fields = sortF (v.fields.map fun g => (g.1, canonV g.2)) := by
  rw [canonV_eq]; exact ⟨rfl, rfl, rfl, rfl, rfl⟩
theorem keys_map (l : List (ByteArray × V)) : (l.map fun g => (g.1, canonV g.2)).map (·.1) = l.map (·.1) := by
  rw [List.map_map]; rfl
theorem keys_sort {l : List (ByteArray × V)} (h : (l.map (·.1)).Nodup) : ((sortF l).map (·.1)).Nodup := ((sortF_perm l).map (·.1)).nodup_iff.2 h
theorem sort_eq {l m : List (ByteArray × V)} (h : l.Perm m) (hn : (l.map (·.1)).Nodup) : sortF l = sortF m :=
  inc_eq _ _ (sortF_inc _ hn) (sortF_inc _ ((h.map (·.1)).nodup_iff.1 hn)) ((sortF_perm l).trans (h.trans (sortF_perm m).symm))
theorem canon_count : ∀ v : V, countV (canonV v) = countV v := V.ind fun v ihl ihf => by
  obtain ⟨_, _, _, h4, h5⟩ := canon_parts v
  rw [countV_eq, countV_eq v, h4, h5, sumN_perm ((sortF_perm _).map fun g : ByteArray × V => countV g.2), List.map_map, List.map_map]
  rw [List.map_congr_left (f := countV ∘ canonV) (g := countV) (fun x hx => ihl x hx), List.map_congr_left (f := (fun g : ByteArray × V => countV g.2) ∘ fun g : ByteArray × V => (g.1, canonV g.2)) (g := fun g => countV g.2) (fun g hg => ihf g hg)]
theorem canon_depth : ∀ v : V, depthV (canonV v) = depthV v := V.ind fun v ihl ihf => by
  obtain ⟨_, _, _, h4, h5⟩ := canon_parts v
  rw [depthV_eq, depthV_eq v, h4, h5, maxN_perm ((sortF_perm _).map fun g : ByteArray × V => depthV g.2), List.map_map, List.map_map]
  rw [List.map_congr_left (f := depthV ∘ canonV) (g := depthV) (fun x hx => ihl x hx), List.map_congr_left (f := (fun g : ByteArray × V => depthV g.2) ∘ fun g : ByteArray × V => (g.1, canonV g.2)) (g := fun g => depthV g.2) (fun g hg => ihf g hg)]
theorem canon_ok : ∀ v : V, okC v → okC (canonV v) := V.ind fun v ihl ihf => by
  intro h
  obtain ⟨h1, h2, h3, h4, h5⟩ := (okC_eq v).1 h
  obtain ⟨_, _, _, e4, e5⟩ := canon_parts v
  refine (okC_eq _).2 ⟨by rw [e4, List.length_map]; exact h1, by rw [e5, (sortF_perm _).length_eq, List.length_map]; exact h2, by rw [e5]; exact keys_sort (by rw [keys_map]; exact h3), fun x hx => ?_, fun g hg => ?_⟩
  · rw [e4] at hx
    obtain ⟨y, hy, rfl⟩ := List.mem_map.1 hx
    exact ihl y hy (h4 y hy)
  · rw [e5] at hg
    obtain ⟨y, hy, rfl⟩ := List.mem_map.1 ((sortF_perm _).mem_iff.1 hg)
    exact ihf y hy (h5 y hy)
theorem canon_canon : ∀ v : V, okC v → canonV (canonV v) = canonV v := V.ind fun v ihl ihf => by
  intro h
  obtain ⟨h1, h2, h3, h4, h5⟩ := (okC_eq v).1 h
  obtain ⟨e1, e2, e3, e4, e5⟩ := canon_parts v
  rw [canonV_eq (canonV v), e1, e2, e3, e4, e5, canonV_eq v]
  have hl : (v.list.map canonV).map canonV = v.list.map canonV := by
    rw [List.map_map]
    exact List.map_congr_left (fun x hx => ihl x hx (h4 x hx))
  have hf : (sortF (v.fields.map fun g => (g.1, canonV g.2))).map (fun g => (g.1, canonV g.2)) = sortF (v.fields.map fun g => (g.1, canonV g.2)) := by
    conv => rhs; rw [← List.map_id (sortF (v.fields.map fun g => (g.1, canonV g.2)))]
    refine List.map_congr_left (fun g hg => ?_)
    obtain ⟨y, hy, rfl⟩ := List.mem_map.1 ((sortF_perm _).mem_iff.1 hg)
    exact Prod.ext rfl (ihf y hy (h5 y hy))
  rw [hl, hf, sort_eq (sortF_perm _) (keys_sort (by rw [keys_map]; exact h3))]
/-- A map's fields in another order: the same. -/
theorem canon_perm (k i : Int) (t : ByteArray) (l : List V) {f f' : List (ByteArray × V)} (h : f'.Perm f) (hn : (f.map (·.1)).Nodup) : canonV (.mk k i t l f') = canonV (.mk k i t l f) := by
  rw [canonV_eq, canonV_eq (.mk k i t l f)]
  show V.mk k i t (l.map canonV) (sortF (f'.map _)) = V.mk k i t (l.map canonV) (sortF (f.map _))
  rw [sort_eq (h.map _) (by rw [keys_map]; exact (h.map (·.1)).nodup_iff.2 hn)]
theorem canon_more (v : V) : ¬ canonV v = canonV (.mk 4 0 ⟨#[]⟩ [v] []) := fun e => by
  have h := congrArg countV e
  rw [canon_count, canon_count, countV_eq (.mk 4 0 ⟨#[]⟩ [v] [])] at h
  simp [V.list, V.fields, sumN] at h
theorem canon_inc (v : V) (h : okC v) : Inc (canonV v).fields := by
  rw [(canon_parts v).2.2.2.2]
  exact sortF_inc _ (by rw [keys_map]; exact ((okC_eq v).1 h).2.2.1)
theorem inc_at {l : List (ByteArray × V)} (h : Inc l) {i j : Nat} (hi : i < l.length) (hj : j < l.length) (hij : i < j) : ltB l[i].1 l[j].1 := List.pairwise_iff_getElem.1 h i j hi hj hij

/-- Fields that are told from a row, one by one: their cells, and where their values lie. -/
def Cop (S : Nat → Prop) (w : World) (l : List (ByteArray × V)) (yss : List (List Value)) : Prop := yss.length = l.length ∧ AllZ (fun (g : ByteArray × V) ys => ∃ p q : Sl, ys = cellsF g p q ∧ HV S w g.2 p q) l yss
theorem Cop.nil (S : Nat → Prop) (w : World) : Cop S w [] [] := ⟨rfl, fun i x y h => by simp at h⟩
theorem Cop.snoc {S : Nat → Prop} {w : World} {l : List (ByteArray × V)} {yss : List (List Value)} (h : Cop S w l yss) {g : ByteArray × V} {p q : Sl} (hh : HV S w g.2 p q) : Cop S w (l ++ [g]) (yss ++ [cellsF g p q]) :=
  ⟨by simp [h.1], allZ_snoc h.1 h.2 ⟨p, q, rfl, hh⟩⟩
theorem Cop.row {S S' : Nat → Prop} {w w' : World} {B : Nat} {l : List (ByteArray × V)} {yss : List (List Value)} {q : Sl} (h : Cop S w l yss) (ho : w'.ownsRow B 31 6 q.val l.length yss.flatten)
    (hk : ∀ g, S g → g < w.heap.size → S' g ∧ w'.heap[g]? = w.heap[g]?) (hq : ∀ g, q.val.ownBlock = some g → S' g) : RowF S' w' l q := by
  refine ⟨yss, ⟨h.1, fun xs hx => ?_, own_zero ho, hq⟩, fun i x y hx hy => ?_⟩
  · obtain ⟨i, hi, rfl⟩ := List.getElem_of_mem hx
    obtain ⟨p, q, e, _⟩ := h.2 i (l[i]'(by rw [← h.1]; exact hi)) yss[i] (List.getElem?_eq_getElem _) (List.getElem?_eq_getElem _)
    rw [e]; rfl
  · obtain ⟨p, q, rfl, hh⟩ := h.2 i x y hx hy
    exact ⟨cellsV x.2 p q, rfl, (hh.map hk).lies⟩
end Go.Proofs.YteocenjneoclbaaDoor.tre
