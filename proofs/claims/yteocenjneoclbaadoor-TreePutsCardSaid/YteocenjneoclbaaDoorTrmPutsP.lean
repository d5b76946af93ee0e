/- Layer 4: what is put is got, what is dropped is not there. Pure. -/
import Derived.Test.YteocenjneoclbaaDoorTrmBackP
import Derived.Test.YteocenjneoclbaaDoorTrmMapP
namespace Go.Proofs.YteocenjneoclbaaDoor.tre
open Go.RowKit Go.Shelf

theorem get_uniq {u y : V} {key : ByteArray} (h5 : u.kind = 5) (he : ∃ g ∈ u.fields, (g.1.toList == key.toList) = true) (hu : ∀ g ∈ u.fields, (g.1.toList == key.toList) = true → g.2 = y) : getR u [key] = (y, true) := by
  rcases place_cases u key h5 with ⟨_, hn⟩ | ⟨k, hk, hp, hm⟩
  · obtain ⟨g, hg, h⟩ := he
    rw [hn g hg] at h; cases h
  · unfold getR
    rw [get_hit hk hp, hu _ (List.getElem_mem hk) hm]
    rfl
theorem get_nothing {u : V} {key : ByteArray} (hn : u.kind = 5 → ∀ g ∈ u.fields, (g.1.toList == key.toList) = false) : getR u [key] = (nilV, false) := by
  unfold getR
  rw [get_miss (place_miss (fun h5 j hj => hn h5 _ (List.getElem_mem hj)))]
theorem put_form {v x : V} {k : ByteArray} (h5 : v.kind = 5) : putV v k x = .mk v.kind v.int v.text v.list (putL k x v.fields) := if_pos h5
theorem putL_mem {k : ByteArray} {x : V} {l : List (ByteArray × V)} {g : ByteArray × V} (h : g ∈ putL k x l) : (∃ g0 ∈ l, g = putF k x g0) ∨ g = (k, x) := by
  unfold putL at h
  split at h
  · obtain ⟨g0, h0, rfl⟩ := List.mem_map.1 h
    exact .inl ⟨g0, h0, rfl⟩
  · rcases List.mem_append.1 h with h | h
    · obtain ⟨g0, h0, rfl⟩ := List.mem_map.1 h
      exact .inl ⟨g0, h0, rfl⟩
    · exact .inr (List.mem_singleton.1 h)
theorem putF_key (k : ByteArray) (x : V) (g : ByteArray × V) : (putF k x g).1 = g.1 := by unfold putF; split <;> rfl
theorem mem_putL {k : ByteArray} {x : V} {l : List (ByteArray × V)} {g : ByteArray × V} (h : g ∈ l) : putF k x g ∈ putL k x l := by
  unfold putL
  split
  · exact List.mem_map_of_mem h
  · exact List.mem_append_left _ (List.mem_map_of_mem h)
theorem get_put {v x : V} {k : ByteArray} (h5 : v.kind = 5) : getR (putV v k x) [k] = (x, true) := by
  rw [put_form h5]
  refine get_uniq (u := .mk v.kind v.int v.text v.list (putL k x v.fields)) h5 ?_ (fun g hg hk => ?_)
  · show ∃ g ∈ putL k x v.fields, _
    by_cases ha : (v.fields.any fun g => g.1.toList == k.toList) = true
    · obtain ⟨g, hg, h⟩ := List.any_eq_true.1 ha
      exact ⟨_, mem_putL hg, by rw [putF_key]; exact h⟩
    · unfold putL
      rw [if_neg ha]
      exact ⟨(k, x), List.mem_append_right _ (List.mem_singleton.2 rfl), beq_self_eq_true _⟩
  · rcases putL_mem hg with ⟨g0, _, rfl⟩ | rfl
    · rw [putF_key] at hk
      unfold putF
      rw [if_pos hk]
    · rfl
theorem get_put_other {v x : V} {k : ByteArray} (h5 : v.kind = 5) (hn : (v.fields.map (·.1)).Nodup) {f : ByteArray × V} (hf : f ∈ v.fields) (hk : (f.1.toList == k.toList) = false) : getR (putV v k x) [f.1] = (f.2, true) := by
  have hpf : putF k x f = f := by unfold putF; rw [if_neg (by rw [hk]; decide)]
  rw [put_form h5]
  refine get_uniq (u := .mk v.kind v.int v.text v.list (putL k x v.fields)) h5 ⟨f, by show f ∈ putL k x v.fields; rw [← hpf]; exact mem_putL hf, beq_self_eq_true _⟩ (fun g hg hgk => ?_)
  rcases putL_mem hg with ⟨g0, h0, rfl⟩ | rfl
  · rw [putF_key] at hgk
    have e : g0.1 = f.1 := text_eq.1 (beq_iff_eq.1 hgk)
    have : g0 = f := by
      obtain ⟨i, hi, rfl⟩ := List.getElem_of_mem h0
      obtain ⟨j, hj, rfl⟩ := List.getElem_of_mem hf
      have hp := List.pairwise_iff_getElem.1 hn
      rcases Nat.lt_trichotomy i j with h | h | h
      · exact absurd e (by have := hp i j (by rw [List.length_map]; exact hi) (by rw [List.length_map]; exact hj) h; rwa [List.getElem_map, List.getElem_map] at this)
      · subst h; rfl
      · exact absurd e.symm (by have := hp j i (by rw [List.length_map]; exact hj) (by rw [List.length_map]; exact hi) h; rwa [List.getElem_map, List.getElem_map] at this)
    rw [this, hpf]
  · have e : k = f.1 := text_eq.1 (beq_iff_eq.1 hgk)
    rw [e] at hk
    simp at hk
theorem get_drop (v : V) (k : ByteArray) : getR (dropV v k) [k] = (nilV, false) := by
  refine get_nothing (fun h5 g hg => ?_)
  unfold dropV at h5 hg
  split at hg
  · have := (List.mem_filter.1 hg).2
    simpa using this
  · rename_i h
    rw [if_neg h] at h5
    exact absurd h5 h
theorem drop_put {v x : V} {k : ByteArray} (h5 : v.kind = 5) (hw : (getR v [k]).2 = false) : dropV (putV v k x) k = v := by
  have hall : ∀ g ∈ v.fields, (g.1.toList == k.toList) = false := by
    rcases place_cases v k h5 with ⟨_, h⟩ | ⟨j, hj, hp, _⟩
    · exact h
    · unfold getR at hw
      rw [get_hit hj hp] at hw
      cases hw
  have hmap : v.fields.map (putF k x) = v.fields := by
    conv => rhs; rw [← List.map_id v.fields]
    exact List.map_congr_left (fun g hg => by unfold putF; rw [if_neg (by rw [hall g hg]; decide)]; rfl)
  have hpl : putL k x v.fields = v.fields ++ [(k, x)] := by
    unfold putL
    rw [if_neg (by rw [List.any_eq_true]; rintro ⟨g, hg, h⟩; rw [hall g hg] at h; cases h), hmap]
  rw [put_form h5, hpl]
  unfold dropV
  show (if v.kind = 5 then V.mk v.kind v.int v.text v.list ((v.fields ++ [(k, x)]).filter fun g => !(g.1.toList == k.toList)) else V.mk v.kind v.int v.text v.list (v.fields ++ [(k, x)])) = v
  rw [if_pos h5, List.filter_append, List.filter_eq_self.2 (fun g hg => by rw [hall g hg]; rfl)]
  simp [V.eta]
theorem drop_ok {v : V} (k : ByteArray) (h : okC v) : okC (dropV v k) := by
  unfold dropV
  split
  · obtain ⟨h1, h2, h3, h4, h5⟩ := (okC_eq v).1 h
    exact (okC_eq _).2 ⟨h1, Nat.le_trans (List.length_filter_le _ _) h2, List.Nodup.sublist (List.Sublist.map (fun g : ByteArray × V => g.1) List.filter_sublist) h3, h4, fun g hg => h5 g (List.mem_filter.1 hg).1⟩
  · exact h
theorem put_ok {v x : V} {k : ByteArray} (h : okC v) (hx : okC x) (hl : v.fields.length ≤ 2000) : okC (putV v k x) := by
  unfold putV
  split
  · obtain ⟨h1, _, h3, h4, h5⟩ := (okC_eq v).1 h
    refine (okC_eq _).2 ⟨h1, ?_, ?_, h4, fun g hg => ?_⟩
    · show (putL k x v.fields).length ≤ _
      unfold putL
      split <;> simp <;> omega
    · show ((putL k x v.fields).map (·.1)).Nodup
      have hm : (v.fields.map (putF k x)).map (·.1) = v.fields.map (·.1) := by
        rw [List.map_map]; exact List.map_congr_left (fun g _ => putF_key k x g)
      unfold putL
      split
      · rw [hm]; exact h3
      · rename_i ha
        rw [List.map_append, hm]
        refine List.nodup_append.2 ⟨h3, by simp, fun a hA b hb => ?_⟩
        obtain ⟨g, hg, rfl⟩ := List.mem_map.1 hA
        obtain rfl : b = k := by simpa using hb
        exact fun e => ha (List.any_eq_true.2 ⟨g, hg, by rw [e]; exact beq_self_eq_true _⟩)
    · rcases putL_mem hg with ⟨g0, h0, rfl⟩ | rfl
      · unfold putF
        split
        · exact hx
        · exact h5 g0 h0
      · exact hx
  · exact h
end Go.Proofs.YteocenjneoclbaaDoor.tre
