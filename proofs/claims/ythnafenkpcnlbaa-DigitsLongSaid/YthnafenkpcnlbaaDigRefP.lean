/- Layer 2: the document's own Parse. -/
import Derived.Test.YthnafenkpcnlbaaDigRead
import Derived.Test.YthnafenkpcnlbaaDigRefT
import Derived.Deep.DeepCutAuto
namespace Go.Proofs.Ythnafenkpcnlbaa.dig
open Go.RowKit

theorem hasM_nil (s : ByteArray) (h : s.size = 0) : hasM s.data.toList = false ∧ behindM s.data.toList = s.data.toList := by
  have hl : s.data.toList.length = s.size := Array.length_toList
  have e : s.data.toList = [] := List.length_eq_zero_iff.1 (by omega)
  rw [e]; exact ⟨rfl, rfl⟩
theorem hasM_yes (s : ByteArray) (h : 0 < s.size) (h45 : s[0] = 45) : hasM s.data.toList = true ∧ behindM s.data.toList = (s.extract 1 s.size).data.toList := by
  have e : hasM s.data.toList = true := by unfold hasM; rw [head_of s h, h45]; rfl
  refine ⟨e, ?_⟩
  unfold behindM
  rw [e, Lib.extract_data, if_pos rfl]
  have hl : s.data.toList.length = s.size := Array.length_toList
  rw [List.take_of_length_le (by rw [List.length_drop]; omega)]
  cases hd : s.data.toList with
  | nil => rfl
  | cons c l => rfl
theorem hasM_no (s : ByteArray) (h : 0 < s.size) (h45 : s[0] ≠ 45) : hasM s.data.toList = false ∧ behindM s.data.toList = s.data.toList := by
  have e : hasM s.data.toList = false := by unfold hasM; rw [head_of s h]; simpa using h45
  refine ⟨e, ?_⟩
  unfold behindM
  rw [e]; rfl

theorem empty_list (T : ByteArray) (h : T.size = 0) : T.toList = [] := by
  have hl : T.data.toList.length = T.size := Array.length_toList
  rw [ByteArray.toList_eq]; exact List.length_eq_zero_iff.1 (by omega)
theorem empty_isEmpty (T : ByteArray) (h : T.size = 0) : T.toList.isEmpty = true := by rw [empty_list T h]; rfl
theorem full_isEmpty (T : ByteArray) (h : 0 < T.size) : T.toList.isEmpty = false := by
  have hl : T.data.toList.length = T.size := Array.length_toList
  rw [ByteArray.toList_eq, List.isEmpty_eq_false_iff]
  intro e; rw [e] at hl; simp at hl; omega
theorem empty_pre (T : ByteArray) (h : T.size = 0) : (pre T.data.toList).length = 0 := by
  have e := empty_list T h
  rw [ByteArray.toList_eq] at e
  rw [e]; rfl
theorem nodigit_no {l : List UInt8} {T : ByteArray} (hT : T.data.toList = behindM l) (k : Nat) (hk : k < T.size) (h : isD T[k] = false) : pV l = 0 ∧ pE l = 10 := by
  refine form_no (form_false ?_)
  rw [← hT]
  rintro ⟨_, b, _⟩
  have hm : T[k] ∈ T.data.toList := Array.getElem_mem_toList hk
  have := List.all_eq_true.1 b _ hm
  rw [h] at this; cases this
theorem ov_step (T : ByteArray) (k : Nat) (hk : k < T.size) (z : Nat) (hz : over64 (T.data.toList.take k) = false → z = val (T.data.toList.take k)) :
    (18446744073709551615 < z * 10 + (T[k].toNat - 48) → over64 (T.data.toList.take (k + 1)) = true) ∧
    (z * 10 + (T[k].toNat - 48) ≤ 18446744073709551615 → over64 (T.data.toList.take (k + 1)) = over64 (T.data.toList.take k) ∧ (over64 (T.data.toList.take (k + 1)) = false → z * 10 + (T[k].toNat - 48) = val (T.data.toList.take (k + 1)))) := by
  rw [take_snoc T k hk]
  cases ho : over64 (T.data.toList.take k) with
  | true =>
    rw [over_snoc ho]
    exact ⟨fun _ => rfl, fun _ => ⟨rfl, fun h => by cases h⟩⟩
  | false =>
    have e := hz ho
    have hv := val_snoc (T.data.toList.take k) T[k]
    have hdv : dval T[k] = T[k].toNat - 48 := rfl
    constructor
    · intro h
      exact decide_eq_true (by omega)
    · intro h
      exact ⟨decide_eq_false (by omega), fun _ => by omega⟩
theorem end_yes {l : List UInt8} {T : ByteArray} {m : Bool} (hT : T.data.toList = behindM l) (hm : hasM l = m) (k : Nat) (hk : ¬ k < T.size) (ha : (T.data.toList.take k).all isD = true) (h0 : 0 < T.size) (hy : T[0] = 48 → hasM l = false ∧ T.size ≤ 1) :
    pV l = tV (sgn m (val T.data.toList)) ∧ pE l = tE (sgn m (val T.data.toList)) := by
  have hl : T.data.toList.length = T.size := Array.length_toList
  have hp := pre_end T k hk ha
  rw [List.take_of_length_le (by omega)] at hp
  have := lead_yes hT h0 (by rw [hp]; exact hl) hy
  rw [hm] at this
  exact this.2
theorem num_end {T : ByteArray} {m : Bool} {x : Int} (k : Nat) (hk : ¬ k < T.size) (z : Nat) (hz : over64 (T.data.toList.take k) = false → z = val (T.data.toList.take k)) (hx : x = sgn m (val T.data.toList)) :
    (over64 (T.data.toList.take k) = true → ¬ inI x) ∧ (over64 (T.data.toList.take k) = false → sgn m (z : Int) = x) := by
  have hl : T.data.toList.length = T.size := Array.length_toList
  rw [List.take_of_length_le (by omega)] at hz ⊢
  subst hx
  refine ⟨fun h => ?_, fun h => by rw [hz h]⟩
  have h := of_decide_eq_true h
  unfold sgn inI; cases m <;> simp only [cond_false, cond_true] <;> omega

set_option maxHeartbeats 1000000 in
theorem RefParse_any (s : ByteArray) (hs : s.size ≤ maxLen) (w : World) :
    Calls Try.prog 12 #[.string s] w fun e w' => e = .returned (.tuple #[.int .i64 (pV s.data.toList), .int .i64 (pE s.data.toList)]) ∧ Below w.heap.size w w' := by
  unfold maxLen at hs
  by_cases h0 : s.size = 0
  · have Hf := Lib.hid (short_no (l := s.data.toList) (T := s) (hasM_nil s h0).2.symm (.inl (by
      have hl : s.data.toList.length = s.size := Array.length_toList
      have e : s.data.toList = [] := List.length_eq_zero_iff.1 (by omega)
      rw [e]; rfl)))
    have hse : s = ⟨#[]⟩ := by
      apply ByteArray.ext
      apply Array.eq_empty_of_size_eq_zero
      exact h0
    subst hse
    clear h0
    go_enter Try.func12, Try.ntmps12
    go_wp2
    go_ret2
    exact ⟨ret2 Hf.out.1.symm Hf.out.2.symm, (Below.refl _ _).alloc (Nat.le_refl _) _⟩
  have hs0 : 0 < s.size := by omega
  clear h0
  obtain ⟨T, hT⟩ : ∃ T : ByteArray, T = s.extract 1 s.size := ⟨_, rfl⟩
  by_cases h45 : s[0] = 45
  · obtain ⟨hm, hb⟩ := hasM_yes s hs0 h45
    have hc : ((s[0].toNat : Int) == 45) = true := by rw [h45]; rfl
    rw [← hT] at hb
    have hTs : T.size ≤ 9223372036854775807 := by rw [hT, ByteArray.size_extract]; omega
    have Hm := Lib.hid hm
    have Hb := Lib.hid hb.symm
    have HT := Lib.hid hT
    clear hm hb h45 hT
    go_enter Try.func12, Try.ntmps12
    go_upto_region 6 with fail
    rw [← HT.out]
    by_cases hT0 : T.size = 0
    · have Hf := Lib.hid (short_no (l := s.data.toList) Hb.out (.inl (empty_pre T hT0)))
      have he := empty_list T hT0
      have he2 := empty_isEmpty T hT0
      clear hT0
      go_wp2
      go_ret2
      exact ⟨ret2 Hf.out.1.symm Hf.out.2.symm, (Below.refl _ _).alloc (Nat.le_refl _) _⟩
    have hT0 : 0 < T.size := by omega
    have he2 := full_isEmpty T hT0
    have HT0 := Lib.hid (lead_no (l := s.data.toList) Hb.out hT0)
    by_cases h48 : T[0] = 48
    · have hc2 : ((T[0].toNat : Int) == 48) = true := by rw [h48]; rfl
      have H48 := Lib.hid h48
      clear h48
      by_cases hbig : 1 < T.size
      · have Hf := Lib.hid (HT0.out H48.out (.inr hbig))
        go_wp2
        go_ret2
        exact ⟨ret2 Hf.out.1.symm Hf.out.2.symm, (Below.refl _ _).alloc (Nat.le_refl _) _⟩
      · have Hf := Lib.hid (HT0.out H48.out (.inl Hm.out))
        go_wp2
        go_ret2
        exact ⟨ret2 Hf.out.1.symm Hf.out.2.symm, (Below.refl _ _).alloc (Nat.le_refl _) _⟩
    · have hc2 : ((T[0].toNat : Int) == 48) = false := by
        rw [beq_eq_false_iff_ne]
        intro e
        exact h48 (UInt8.toNat_inj.1 (by show T[0].toNat = 48; omega))
      have Hy : Hid (T[0] = 48 → hasM s.data.toList = false ∧ T.size ≤ 1) := fun h => absurd h h48
      clear h48
      go_wp2
      go_loopw [6] (fun v6 wr => ∃ (k : Nat) (z : Nat), k ≤ T.size ∧ v6 = .int .i64 k ∧ Hid ((T.data.toList.take k).all isD = true) ∧ z ≤ 18446744073709551615 ∧ Hid (over64 (T.data.toList.take k) = false → z = val (T.data.toList.take k)) ∧
          wr.heap[w.heap.size]? = some (.cells #[.bool true, .bool (over64 (T.data.toList.take k)), .int .u64 z] 41 (0, 0)) ∧ Below w.heap.size w wr) (fun v _ => T.size - (intOf v).toNat)
      case atStart => exact ⟨0, 0, by omega, rfl, rfl, by omega, (fun _ => rfl), heap_alloc_new _ _, (Below.refl _ _).alloc (Nat.le_refl _) _⟩
      case round =>
        obtain ⟨k, z, hk, rfl, Ha, hz, Hz, hblk, hB⟩ := hrel
        have c0 := blk_cell hblk 0
        have c1 := blk_cell hblk 1
        have c2 := blk_cell hblk 2
        have f1 := blk_frozen hblk 1
        have f2 := blk_frozen hblk 2
        simp at c0 c1 c2
        have Hblk := Lib.hid hblk
        clear hblk
        by_cases hlt : k < T.size
        · cases hd : isD T[k] with
          | false =>
            have Hf := Lib.hid (nodigit_no Hb.out k hlt hd)
            rcases isD_not _ hd with h | h
            · clear hd
              have h' : (T[k].toNat : Int) < 48 := by omega
              go_wp2
              go_ret2
              exact ⟨ret2 Hf.out.1.symm Hf.out.2.symm, hB⟩
            · clear hd
              have h' : 57 < (T[k].toNat : Int) := by omega
              have h'' : ¬ (T[k].toNat : Int) < 48 := by omega
              go_wp2
              go_ret2
              exact ⟨ret2 Hf.out.1.symm Hf.out.2.symm, hB⟩
          | true =>
            have Hn := Lib.hid (all_snoc T k hlt Ha.out hd)
            have hcs := (isD_iff _).1 hd
            have h1 : (48 : Int) ≤ (T[k].toNat : Int) := by omega
            have h2 : (T[k].toNat : Int) ≤ 57 := by omega
            have Hstep := Lib.hid (ov_step T k hlt z Hz.out)
            clear hd hcs
            by_cases hov : 18446744073709551615 < (z : Int) * 10 + ((T[k].toNat : Int) - 48)
            · have ht : (18446744073709551615 - ((T[k].toNat : Int) - 48)) / 10 < (z : Int) := by omega
              have Hst := Lib.hid (Hstep.out.1 (by omega))
              clear hov
              go_wp2
              go_roundw
              case measure => simp [intOf]; omega
              case rel =>
                refine ⟨k + 1, T[k].toNat - 48, by omega, by go_num, Hn, by omega, ?_, ?_, (((hB.setCell (Nat.le_refl _) _).setCell (Nat.le_refl _) _).setCell (Nat.le_refl _) _)⟩
                · show over64 (T.data.toList.take (k + 1)) = false → _
                  rw [Hst.out]; intro h; cases h
                · rw [Hst.out, show ((T[k].toNat - 48 : Nat) : Int) = (T[k].toNat : Int) - 48 by omega]
                  exact blk_set (blk_set (blk_set Hblk.out 1 _) 2 _) 2 _
            · have ht : ¬ (18446744073709551615 - ((T[k].toNat : Int) - 48)) / 10 < (z : Int) := by omega
              have ht2 : (z : Int) * 10 + ((T[k].toNat : Int) - 48) ≤ 18446744073709551615 := by omega
              have Hst := Lib.hid (Hstep.out.2 (by omega))
              clear hov
              go_wp2
              go_roundw
              case measure => simp [intOf]; omega
              case rel =>
                refine ⟨k + 1, z * 10 + (T[k].toNat - 48), by omega, by go_num, Hn, by omega, Hst.out.2, ?_, hB.setCell (Nat.le_refl _) _⟩
                rw [Hst.out.1, show ((z * 10 + (T[k].toNat - 48) : Nat) : Int) = (z : Int) * 10 + ((T[k].toNat : Int) - 48) by omega]
                exact blk_set Hblk.out 2 _
        · have Hy2 := Lib.hid (end_yes Hb.out Hm.out k hlt Ha.out hT0 Hy.out)
          have Hnum := Lib.hid (num_end (m := true) (x := sgn true (val T.data.toList)) k hlt z Hz.out rfl)
          go_wp2_with fail
          refine (Told_num (sgn true (val T.data.toList)) true (over64 (T.data.toList.take k)) z (by omega) Hnum.out.1 Hnum.out.2 _).mono ?_
          rintro e w4 ⟨rfl, hb4⟩
          go_wp2
          go_ret2
          exact ⟨ret2 (by rw [Hy2.out.1]) (by rw [Hy2.out.2]), hB.trans (hb4.mono hB.size)⟩
  · obtain ⟨hm, hb⟩ := hasM_no s hs0 h45
    have hc : ((s[0].toNat : Int) == 45) = false := by
      rw [beq_eq_false_iff_ne]
      intro e
      exact h45 (UInt8.toNat_inj.1 (by show s[0].toNat = 45; omega))
    clear hT T
    have hTs : s.size ≤ 9223372036854775807 := by omega
    have Hm := Lib.hid hm
    have Hb := Lib.hid hb.symm
    clear hm hb h45
    go_enter Try.func12, Try.ntmps12
    go_upto_region 6 with fail
    by_cases hT0 : s.size = 0
    · have Hf := Lib.hid (short_no (l := s.data.toList) Hb.out (.inl (empty_pre s hT0)))
      have he := empty_list s hT0
      have he2 := empty_isEmpty s hT0
      clear hT0
      go_wp2
      go_ret2
      exact ⟨ret2 Hf.out.1.symm Hf.out.2.symm, (Below.refl _ _).alloc (Nat.le_refl _) _⟩
    have hT0 : 0 < s.size := by omega
    have he2 := full_isEmpty s hT0
    have HT0 := Lib.hid (lead_no (l := s.data.toList) Hb.out hT0)
    by_cases h48 : s[0] = 48
    · have hc2 : ((s[0].toNat : Int) == 48) = true := by rw [h48]; rfl
      have H48 := Lib.hid h48
      clear h48
      by_cases hbig : 1 < s.size
      · have Hf := Lib.hid (HT0.out H48.out (.inr hbig))
        go_wp2
        go_ret2
        exact ⟨ret2 Hf.out.1.symm Hf.out.2.symm, (Below.refl _ _).alloc (Nat.le_refl _) _⟩
      · have Hy : Hid (s[0] = 48 → hasM s.data.toList = false ∧ s.size ≤ 1) := fun _ => ⟨Hm.out, by omega⟩
        go_wp2
        go_loopw [6] (fun v6 wr => ∃ (k : Nat) (z : Nat), k ≤ s.size ∧ v6 = .int .i64 k ∧ Hid ((s.data.toList.take k).all isD = true) ∧ z ≤ 18446744073709551615 ∧ Hid (over64 (s.data.toList.take k) = false → z = val (s.data.toList.take k)) ∧
            wr.heap[w.heap.size]? = some (.cells #[.bool false, .bool (over64 (s.data.toList.take k)), .int .u64 z] 41 (0, 0)) ∧ Below w.heap.size w wr) (fun v _ => s.size - (intOf v).toNat)
        case atStart => exact ⟨0, 0, by omega, rfl, rfl, by omega, (fun _ => rfl), heap_alloc_new _ _, (Below.refl _ _).alloc (Nat.le_refl _) _⟩
        case round =>
          obtain ⟨k, z, hk, rfl, Ha, hz, Hz, hblk, hB⟩ := hrel
          have c0 := blk_cell hblk 0
          have c1 := blk_cell hblk 1
          have c2 := blk_cell hblk 2
          have f1 := blk_frozen hblk 1
          have f2 := blk_frozen hblk 2
          simp at c0 c1 c2
          have Hblk := Lib.hid hblk
          clear hblk
          by_cases hlt : k < s.size
          · cases hd : isD s[k] with
            | false =>
              have Hf := Lib.hid (nodigit_no Hb.out k hlt hd)
              rcases isD_not _ hd with h | h
              · clear hd
                have h' : (s[k].toNat : Int) < 48 := by omega
                go_wp2
                go_ret2
                exact ⟨ret2 Hf.out.1.symm Hf.out.2.symm, hB⟩
              · clear hd
                have h' : 57 < (s[k].toNat : Int) := by omega
                have h'' : ¬ (s[k].toNat : Int) < 48 := by omega
                go_wp2
                go_ret2
                exact ⟨ret2 Hf.out.1.symm Hf.out.2.symm, hB⟩
            | true =>
              have Hn := Lib.hid (all_snoc s k hlt Ha.out hd)
              have hcs := (isD_iff _).1 hd
              have h1 : (48 : Int) ≤ (s[k].toNat : Int) := by omega
              have h2 : (s[k].toNat : Int) ≤ 57 := by omega
              have Hstep := Lib.hid (ov_step s k hlt z Hz.out)
              clear hd hcs
              by_cases hov : 18446744073709551615 < (z : Int) * 10 + ((s[k].toNat : Int) - 48)
              · have ht : (18446744073709551615 - ((s[k].toNat : Int) - 48)) / 10 < (z : Int) := by omega
                have Hst := Lib.hid (Hstep.out.1 (by omega))
                clear hov
                go_wp2
                go_roundw
                case measure => simp [intOf]; omega
                case rel =>
                  refine ⟨k + 1, s[k].toNat - 48, by omega, by go_num, Hn, by omega, ?_, ?_, (((hB.setCell (Nat.le_refl _) _).setCell (Nat.le_refl _) _).setCell (Nat.le_refl _) _)⟩
                  · show over64 (s.data.toList.take (k + 1)) = false → _
                    rw [Hst.out]; intro h; cases h
                  · rw [Hst.out, show ((s[k].toNat - 48 : Nat) : Int) = (s[k].toNat : Int) - 48 by omega]
                    exact blk_set (blk_set (blk_set Hblk.out 1 _) 2 _) 2 _
              · have ht : ¬ (18446744073709551615 - ((s[k].toNat : Int) - 48)) / 10 < (z : Int) := by omega
                have ht2 : (z : Int) * 10 + ((s[k].toNat : Int) - 48) ≤ 18446744073709551615 := by omega
                have Hst := Lib.hid (Hstep.out.2 (by omega))
                clear hov
                go_wp2
                go_roundw
                case measure => simp [intOf]; omega
                case rel =>
                  refine ⟨k + 1, z * 10 + (s[k].toNat - 48), by omega, by go_num, Hn, by omega, Hst.out.2, ?_, hB.setCell (Nat.le_refl _) _⟩
                  rw [Hst.out.1, show ((z * 10 + (s[k].toNat - 48) : Nat) : Int) = (z : Int) * 10 + ((s[k].toNat : Int) - 48) by omega]
                  exact blk_set Hblk.out 2 _
          · have Hy2 := Lib.hid (end_yes Hb.out Hm.out k hlt Ha.out hT0 Hy.out)
            have Hnum := Lib.hid (num_end (m := false) (x := sgn false (val s.data.toList)) k hlt z Hz.out rfl)
            go_wp2_with fail
            refine (Told_num (sgn false (val s.data.toList)) false (over64 (s.data.toList.take k)) z (by omega) Hnum.out.1 Hnum.out.2 _).mono ?_
            rintro e w4 ⟨rfl, hb4⟩
            go_wp2
            go_ret2
            exact ⟨ret2 (by rw [Hy2.out.1]) (by rw [Hy2.out.2]), hB.trans (hb4.mono hB.size)⟩
    · have hc2 : ((s[0].toNat : Int) == 48) = false := by
        rw [beq_eq_false_iff_ne]
        intro e
        exact h48 (UInt8.toNat_inj.1 (by show s[0].toNat = 48; omega))
      have Hy : Hid (s[0] = 48 → hasM s.data.toList = false ∧ s.size ≤ 1) := fun h => absurd h h48
      clear h48
      go_wp2
      go_loopw [6] (fun v6 wr => ∃ (k : Nat) (z : Nat), k ≤ s.size ∧ v6 = .int .i64 k ∧ Hid ((s.data.toList.take k).all isD = true) ∧ z ≤ 18446744073709551615 ∧ Hid (over64 (s.data.toList.take k) = false → z = val (s.data.toList.take k)) ∧
          wr.heap[w.heap.size]? = some (.cells #[.bool false, .bool (over64 (s.data.toList.take k)), .int .u64 z] 41 (0, 0)) ∧ Below w.heap.size w wr) (fun v _ => s.size - (intOf v).toNat)
      case atStart => exact ⟨0, 0, by omega, rfl, rfl, by omega, (fun _ => rfl), heap_alloc_new _ _, (Below.refl _ _).alloc (Nat.le_refl _) _⟩
      case round =>
        obtain ⟨k, z, hk, rfl, Ha, hz, Hz, hblk, hB⟩ := hrel
        have c0 := blk_cell hblk 0
        have c1 := blk_cell hblk 1
        have c2 := blk_cell hblk 2
        have f1 := blk_frozen hblk 1
        have f2 := blk_frozen hblk 2
        simp at c0 c1 c2
        have Hblk := Lib.hid hblk
        clear hblk
        by_cases hlt : k < s.size
        · cases hd : isD s[k] with
          | false =>
            have Hf := Lib.hid (nodigit_no Hb.out k hlt hd)
            rcases isD_not _ hd with h | h
            · clear hd
              have h' : (s[k].toNat : Int) < 48 := by omega
              go_wp2
              go_ret2
              exact ⟨ret2 Hf.out.1.symm Hf.out.2.symm, hB⟩
            · clear hd
              have h' : 57 < (s[k].toNat : Int) := by omega
              have h'' : ¬ (s[k].toNat : Int) < 48 := by omega
              go_wp2
              go_ret2
              exact ⟨ret2 Hf.out.1.symm Hf.out.2.symm, hB⟩
          | true =>
            have Hn := Lib.hid (all_snoc s k hlt Ha.out hd)
            have hcs := (isD_iff _).1 hd
            have h1 : (48 : Int) ≤ (s[k].toNat : Int) := by omega
            have h2 : (s[k].toNat : Int) ≤ 57 := by omega
            have Hstep := Lib.hid (ov_step s k hlt z Hz.out)
            clear hd hcs
            by_cases hov : 18446744073709551615 < (z : Int) * 10 + ((s[k].toNat : Int) - 48)
            · have ht : (18446744073709551615 - ((s[k].toNat : Int) - 48)) / 10 < (z : Int) := by omega
              have Hst := Lib.hid (Hstep.out.1 (by omega))
              clear hov
              go_wp2
              go_roundw
              case measure => simp [intOf]; omega
              case rel =>
                refine ⟨k + 1, s[k].toNat - 48, by omega, by go_num, Hn, by omega, ?_, ?_, (((hB.setCell (Nat.le_refl _) _).setCell (Nat.le_refl _) _).setCell (Nat.le_refl _) _)⟩
                · show over64 (s.data.toList.take (k + 1)) = false → _
                  rw [Hst.out]; intro h; cases h
                · rw [Hst.out, show ((s[k].toNat - 48 : Nat) : Int) = (s[k].toNat : Int) - 48 by omega]
                  exact blk_set (blk_set (blk_set Hblk.out 1 _) 2 _) 2 _
            · have ht : ¬ (18446744073709551615 - ((s[k].toNat : Int) - 48)) / 10 < (z : Int) := by omega
              have ht2 : (z : Int) * 10 + ((s[k].toNat : Int) - 48) ≤ 18446744073709551615 := by omega
              have Hst := Lib.hid (Hstep.out.2 (by omega))
              clear hov
              go_wp2
              go_roundw
              case measure => simp [intOf]; omega
              case rel =>
                refine ⟨k + 1, z * 10 + (s[k].toNat - 48), by omega, by go_num, Hn, by omega, Hst.out.2, ?_, hB.setCell (Nat.le_refl _) _⟩
                rw [Hst.out.1, show ((z * 10 + (s[k].toNat - 48) : Nat) : Int) = (z : Int) * 10 + ((s[k].toNat : Int) - 48) by omega]
                exact blk_set Hblk.out 2 _
        · have Hy2 := Lib.hid (end_yes Hb.out Hm.out k hlt Ha.out hT0 Hy.out)
          have Hnum := Lib.hid (num_end (m := false) (x := sgn false (val s.data.toList)) k hlt z Hz.out rfl)
          go_wp2_with fail
          refine (Told_num (sgn false (val s.data.toList)) false (over64 (s.data.toList.take k)) z (by omega) Hnum.out.1 Hnum.out.2 _).mono ?_
          rintro e w4 ⟨rfl, hb4⟩
          go_wp2
          go_ret2
          exact ⟨ret2 (by rw [Hy2.out.1]) (by rw [Hy2.out.2]), hB.trans (hb4.mono hB.size)⟩

end Go.Proofs.Ythnafenkpcnlbaa.dig
