/- Layer 7: label.Labels: a map of the keys that were seen, a labelled break. -/
import Derived.Test.YtodobacgbbpmfaaDoorLabSel
import Derived.Test.YtodobacgbbpmfaaDoorLabKey
import Derived.Maps.OwnSet
import Derived.StringKeys
namespace Go.Proofs.YtodobacgbbpmfaaDoor.lab
open Go.RowKit Go.Proofs.YtodobacgbbpmfaaDoor.rep Go.Maps

theorem zeroU (w : World) : (zeroValue 62).run Tryd.prog w = .ok (.agg #[]) w := by kernel_rfl
theorem lawS : Keyed Tryd.prog 9 := string_keyed Tryd.underlying9
/-- The keys of the first ones. -/
def seen (l : List Pr) (k : Nat) : DataW Unit := setOf (.agg []) ((l.take k).map fun p => Lit.string p.key.data.toList)
theorem same_key (a b : ByteArray) : (Lit.string a.data.toList).sameKey (.string b.data.toList) = (a.toList == b.toList) := by
  rw [ByteArray.toList_eq, ByteArray.toList_eq]; rfl
theorem has_seen (l : List Pr) (k : Nat) (key : ByteArray) : Maps.has (seen l k) (.string key.data.toList) = (l.take k).any (keyIs key) := by
  unfold seen
  rw [has_setOf _ _ _ (fun y hy => by obtain ⟨_, _, rfl⟩ := List.mem_map.1 hy; trivial), List.any_map]
  congr 1
  funext p
  exact same_key p.key key
theorem seen_zero (l : List Pr) : seen l 0 = .map [] := by simp [seen, setOf]
theorem seen_succ {l : List Pr} {k : Nat} (h : k < l.length) : seen l (k + 1) = (seen l k).put (.string l[k].key.data.toList) (.agg []) := by
  unfold seen
  rw [List.take_succ_eq_append_getElem h, List.map_append, List.map_cons, List.map_nil, setOf_snoc]

theorem only_of_below {a w : World} (h : Below a.heap.size a w) (row : Option Nat) : a.grownBy w row := ⟨h.os, h.tape, h.output, h.size, fun i hi _ => h.block i hi⟩
set_option maxHeartbeats 2000000 in
theorem Labels_any (B : Nat) (hB : B ≤ 140737488355328) (a : Option Addr) (c : Nat) (l : List Pr) (hl : l.length ≤ 140737488355328) (w : World) (hr : RowIn (prR B) w a l) (hm : nam.MaxL w) :
    Calls Tryd.prog 18 #[.slice a l.length c] w fun e w' => e = .returned (.bool (labelsB l)) ∧ Below w.heap.size w w' := by
  have hmm := @run_makeMap Tryd.prog
  have Hr := Lib.hid hr
  clear hr
  go_enter Tryd.func18, Tryd.ntmps18
  go_wp2
  go_step3
  go_wp2
  go_step3
  go_wp2
  have hn0 := below_new w (.map #[] 0)
  go_loopw [4, 12] (fun m v wr => ∃ k : Nat, k ≤ l.length ∧ m = .bool true ∧ v = .int .i64 k ∧ Hid (∀ i, i < k → okAt l i = true) ∧ Hid (wr.ownsMap Tryd.prog 9 unitElem w.heap.size k (seen l k)) ∧ Below w.heap.size w wr ∧ w.heap.size + 1 ≤ wr.heap.size) (fun _ v _ => l.length - (intOf v).toNat)
  case atStart => exact ⟨0, by omega, rfl, rfl, fun i hi => by omega, by rw [seen_zero]; exact World.ownsMap_made _ _ _ _, hn0, by simp⟩
  case round =>
    obtain ⟨k, hk, rfl, rfl, Ha, hown, hbr, hsz⟩ := hrel
    replace hown := hown.out
    by_cases hlt : k < l.length
    · obtain ⟨b, off, rfl, hbl, cs, hat, hcell⟩ := (Hr.out.later hbr).get hlt
      obtain ⟨hcs, hx1, hx2⟩ := hat
      subst hcs
      have c0 : wr.cell? ⟨b, off + k * 2, none⟩ = some (.string l[k].key) := hcell 0 _ rfl
      have c1 : wr.cell? ⟨b, off + k * 2 + 1, none⟩ = some (.string l[k].value) := hcell 1 _ rfl
      clear hcell
      have hkey : keyOf Tryd.prog 9 (.string l[k].key) = some (.string l[k].key.data.toList) := Go.WideMaps.keyOf_string_mk Tryd.underlying9 (by unfold maxLen; omega)
      have hat := okAt_eq hlt
      unfold okP at hat
      cases ht : (l.take k).any (keyIs l[k].key) with
      | true =>
        have ht2 : Maps.has (seen l k) (.string l[k].key.data.toList) = true := (has_seen _ _ _).trans ht
        have Hn := Lib.hid (labels_no hlt (by rw [hat, ht, Bool.not_true, Bool.and_false]))
        clear hat ht Ha
        go_wp2_with (at_lookup; refine wpList_lookup_own_unit _ rfl _ _ 61 rfl 9 62 lawS Tryd.underlying61 (zeroU _) w.heap.size k _ rfl (hown.alloc _) _ _ rfl hkey ?_)
        rw [Exit.noGoto_ret]
        go_ret
        exact ⟨ret_bool Hn.out.symm, (hbr.alloc (by omega) _).alloc (by simp; omega) _⟩
      | false =>
        have ht2 : Maps.has (seen l k) (.string l[k].key.data.toList) = false := (has_seen _ _ _).trans ht
        have ck := fun w hm => nam.LabelKey_all l[k].key (by omega) w hm
        have cv := fun w => nam.LabelValue_any l[k].value (by unfold maxLen; omega) w
        have hb2 : Below wr.heap.size wr ((wr.alloc (.cells #[.string l[k].key, .string l[k].value] 43)).alloc (.cells #[] 62)) := chain (below_new _ _) (below_new _ _)
        cases hk1 : nam.keyB l[k].key.data.toList with
        | false =>
          have Hn := Lib.hid (labels_no hlt (by rw [hat, hk1]; rfl))
          rw [hk1] at ck
          clear hat ht Ha hk1 cv
          go_wp2_with (at_lookup; refine wpList_lookup_own_unit _ rfl _ _ 61 rfl 9 62 lawS Tryd.underlying61 (zeroU _) w.heap.size k _ rfl (hown.alloc _) _ _ rfl hkey ?_)
          refine (ck _ ((hm.later hbr).later hb2)).mono ?_
          rintro e w3 ⟨rfl, hb3⟩
          go_wp2
          rw [Exit.noGoto_ret]
          go_ret
          exact ⟨ret_bool Hn.out.symm, chain hbr (chain hb2 hb3)⟩
        | true =>
          cases hv1 : nam.valB l[k].value.data.toList with
          | false =>
            have Hn := Lib.hid (labels_no hlt (by rw [hat, hv1, Bool.and_false]; rfl))
            rw [hk1] at ck
            rw [hv1] at cv
            clear hat ht Ha hk1 hv1
            go_wp2_with (at_lookup; refine wpList_lookup_own_unit _ rfl _ _ 61 rfl 9 62 lawS Tryd.underlying61 (zeroU _) w.heap.size k _ rfl (hown.alloc _) _ _ rfl hkey ?_)
            refine (ck _ ((hm.later hbr).later hb2)).mono ?_
            rintro e w3 ⟨rfl, hb3⟩
            have d1 : w3.cell? ⟨wr.heap.size, 1, none⟩ = some (.string l[k].value) := (hb3.cell (p := ⟨wr.heap.size, 1, none⟩) (by simp only [World.size_alloc]; show wr.heap.size < _; omega)).trans ((World.cell?_alloc_lt _ _ _ (by simp)).trans (cell_new _ _ _ _))
            go_wp2_with fail
            refine (cv _).mono ?_
            rintro e w4 ⟨rfl, hb4⟩
            go_wp2
            rw [Exit.noGoto_ret]
            go_ret
            exact ⟨ret_bool Hn.out.symm, chain hbr (chain hb2 (chain hb3 hb4))⟩
          | true =>
            have Hn := Lib.hid (show ∀ i, i < k + 1 → okAt l i = true from fun i hi => by
              by_cases e : i = k
              · subst e; rw [hat, hk1, hv1, ht]; rfl
              · exact Ha.out i (by omega))
            rw [hk1] at ck
            rw [hv1] at cv
            clear hat ht Ha hk1 hv1
            go_wp2_with (at_lookup; refine wpList_lookup_own_unit _ rfl _ _ 61 rfl 9 62 lawS Tryd.underlying61 (zeroU _) w.heap.size k _ rfl (hown.alloc _) _ _ rfl hkey ?_)
            refine (ck _ ((hm.later hbr).later hb2)).mono ?_
            rintro e w3 ⟨rfl, hb3⟩
            have d0 : w3.cell? ⟨wr.heap.size, 0, none⟩ = some (.string l[k].key) := (hb3.cell (p := ⟨wr.heap.size, 0, none⟩) (by simp only [World.size_alloc]; show wr.heap.size < _; omega)).trans ((World.cell?_alloc_lt _ _ _ (by simp)).trans (cell_new _ _ _ _))
            have d1 : w3.cell? ⟨wr.heap.size, 1, none⟩ = some (.string l[k].value) := (hb3.cell (p := ⟨wr.heap.size, 1, none⟩) (by simp only [World.size_alloc]; show wr.heap.size < _; omega)).trans ((World.cell?_alloc_lt _ _ _ (by simp)).trans (cell_new _ _ _ _))
            go_wp2_with fail
            refine (cv _).mono ?_
            rintro e w4 ⟨rfl, hb4⟩
            have hb24 := chain hb2 (chain hb3 hb4)
            have hl3 := hb3.size
            simp at hl3
            have d2 := (hb4.cell (p := ⟨wr.heap.size, 0, none⟩) (by show wr.heap.size < _; omega)).trans d0
            have hown5 := hown.kept (only_of_below hb24 none) (by simp)
            clear d0 d1
            go_wp2_with (at_mapUpdate; refine wpList_mapUpdate_own _ rfl _ _ _ 61 rfl 9 62 lawS Tryd.underlying61 (unitElem (H := Unit)) w.heap.size k _ rfl hown5 (by unfold maxLen; omega) _ _ _ rfl rfl hkey _ [] unitElem_mk ?_; intro w6 hown6 hgrow6)
            have hg6 := hgrow6.size
            have hl4 := hb4.size
            have hbr6 := (chain hbr hb24).grown hgrow6 (Nat.le_trans hbr.size hb24.size) (fun j hj => by cases hj; exact Nat.le_refl _)
            go_roundw
            case rel => exact ⟨k + 1, by omega, rfl, by go_num, Hn, by rw [seen_succ hlt]; exact hown6, hbr6, by omega⟩
            case measure => simp [intOf]; omega
    · have Hn := Lib.hid (show labelsB l = true from labels_iff.2 fun i hi => Ha.out i (by omega))
      clear Ha
      go_wp2
      rw [Exit.noGoto_ret]
      go_ret
      exact ⟨ret_bool Hn.out.symm, hbr⟩
end Go.Proofs.YtodobacgbbpmfaaDoor.lab
