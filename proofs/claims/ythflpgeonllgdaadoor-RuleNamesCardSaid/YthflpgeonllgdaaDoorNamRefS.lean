/- Layer 3: the contracts of the document's own Subdomain and LabelKey, and of names3. -/
import Derived.Test.YthflpgeonllgdaaDoorNamSplit
namespace Go.Proofs.YthflpgeonllgdaaDoor.nam
open Go.RowKit Go.Shelf

theorem rSplit46 (s : ByteArray) (hs : s.size ≤ 2000000) (w : World) : Calls Tryd.prog 57 #[.string s, .int .u8 46] w (SplitPost w 46 s.data.toList) := rSplit_any s hs 46 w
theorem rSplit47 (s : ByteArray) (hs : s.size ≤ 2000000) (w : World) : Calls Tryd.prog 57 #[.string s, .int .u8 47] w (SplitPost w 47 s.data.toList) := rSplit_any s hs 47 w
theorem strs_get (ps : List ByteArray) (k : Nat) (h : k < ps.length) : (strs ps)[k]? = some (.string ps[k]) := by unfold strs; simp [h]

set_option maxHeartbeats 1000000 in
theorem rSubdomain_any (s : ByteArray) (hs : s.size ≤ 2000000) (w : World) :
    Calls Tryd.prog 33 #[.string s] w fun e w' => e = .returned (.bool (subB s.data.toList)) ∧ Below w.heap.size w w' := by
  by_cases hlen : s.size ≤ 253
  · go_enter Tryd.func33, Tryd.ntmps33
    go_wp2_with fail
    refine (rSplit46 s hs _).mono ?_
    rintro e w1 ⟨g, cap, ps, rfl, hps, hrow, hb1⟩
    have hnn : ps.length ≤ 1000 := by
      have h1 := spl_len_le 46 s.data.toList
      rw [← hps, List.length_map, len_data] at h1; omega
    have Hps := Lib.hid hps
    clear hps
    go_wp2
    go_loop [4] (fun v => ∃ k : Nat, k ≤ ps.length ∧ v = .int .i64 k ∧ Hid (∀ i (hi : i < ps.length), i < k → labB ps[i].data.toList = true)) (fun v => ps.length - (intOf v).toNat)
    case atStart => exact ⟨0, by omega, rfl, fun i _ hi => by omega⟩
    case round =>
      obtain ⟨k, hk, rfl, Ha⟩ := hrel
      by_cases hlt : k < ps.length
      · have hc : w1.cell? ⟨g, k, none⟩ = some (.string ps[k]) := (hrow.cellAt k (by omega)).trans (strs_get ps k hlt)
        have hsz := piece_size Hps.out (List.getElem_mem hlt)
        have cl := fun w => rLabel_any ps[k] (by unfold maxLen; omega) w
        cases hL : labB ps[k].data.toList with
        | true =>
          have Hn := Lib.hid (show ∀ i (hi : i < ps.length), i < k + 1 → labB ps[i].data.toList = true from fun i hi hik => by
            by_cases e : i = k
            · subst e; exact hL
            · exact Ha.out i hi (by omega))
          rw [hL] at cl
          clear hL
          go_wp2_with fail
          refine (cl _).mono ?_
          rintro e w2 ⟨rfl, rfl⟩
          go_wp2
          go_round
          case rel => exact ⟨k + 1, by omega, by go_num, Hn⟩
          case measure => simp [intOf]; omega
        | false =>
          have Hn := Lib.hid (sub_no Hps.out k hlt hL)
          rw [hL] at cl
          clear hL
          go_wp2_with fail
          refine (cl _).mono ?_
          rintro e w2 ⟨rfl, rfl⟩
          go_wp2
          go_ret
          exact ⟨ret_bool Hn.out.symm, hb1⟩
      · have Hn := Lib.hid (sub_yes Hps.out hlen fun i hi => Ha.out i hi (by omega))
        go_wp2
        go_ret
        exact ⟨ret_bool Hn.out.symm, hb1⟩
  · have H := Lib.hid (show subB s.data.toList = false by unfold subB; rw [len_data, decide_eq_false hlen]; rfl)
    have hl : (253 : Int) < s.size := by omega
    go_enter Tryd.func33, Tryd.ntmps33
    go_wp2
    go_ret
    exact ⟨ret_bool H.out.symm, Below.refl _ _⟩

theorem strs_at {ps : List ByteArray} {k : Nat} {x : ByteArray} (h : ps[k]? = some x) : (strs ps)[k]? = some (.string x) := by unfold strs; rw [List.getElem?_map, h]; rfl
def badEnd (x : ByteArray) : Prop := valB x.data.toList = false ∨ x.data.toList = []
theorem key_many {s : ByteArray} {ps : List ByteArray} (h : ps.map (·.data.toList) = spl 47 s.data.toList) (hl : 2 < ps.length) : keyB s.data.toList = false := by
  rw [← refKey_spl, ← h]; unfold refKeyB; rw [List.length_map, if_pos hl]
theorem key_parts {s : ByteArray} {ps : List ByteArray} (h : ps.map (·.data.toList) = spl 47 s.data.toList) (h0 : 0 < ps.length) (h2 : ¬ 2 < ps.length) :
    ∃ x y, ps[ps.length - 1]? = some x ∧ ps[0]? = some y ∧ x.size ≤ s.size ∧ y.size ≤ s.size ∧ (badEnd x → keyB s.data.toList = false) ∧
      (ps.length = 1 → ¬ badEnd x → keyB s.data.toList = true) ∧ (ps.length ≠ 1 → ¬ badEnd x → keyB s.data.toList = subB y.data.toList) := by
  have hs := fun x hx => piece_size (x := x) h hx
  have hk : keyB s.data.toList = refKeyB (ps.map (·.data.toList)) := by rw [h, refKey_spl]
  clear h
  match ps, h0, h2, hs, hk with
  | [x], _, _, hs, hk =>
    refine ⟨x, x, rfl, rfl, hs x (by simp), hs x (by simp), fun hb => ?_, fun _ hb => ?_, fun hn => absurd rfl hn⟩
    · rw [hk]; exact if_pos hb
    · rw [hk]; exact if_neg hb
  | [y, x], _, _, hs, hk =>
    refine ⟨x, y, rfl, rfl, hs x (by simp), hs y (by simp), fun hb => ?_, (fun hn => by simp at hn), fun _ hb => ?_⟩
    · rw [hk]; exact if_pos hb
    · rw [hk]; exact if_neg hb
  | _ :: _ :: _ :: _, _, h2, _, _ => exact absurd (by simp) h2

end Go.Proofs.YthflpgeonllgdaaDoor.nam
