/- Layer 3: the walk of NamesWithin. -/
import Derived.Test.YtdiighgnlckllaaDoorNamLaws
import Derived.Test.YtdiighgnlckllaaDoorNamPure2
import Derived.Lib.SmallJoins
namespace Go.Proofs.YtdiighgnlckllaaDoor.nam
open Go.RowKit Go.Shelf

theorem key_of_val {l : List UInt8} (h0 : l ≠ []) (h : valB l = true) : keyB l = true ∧ (spl 47 l).length = 1 := by
  rw [val_key h0, Bool.and_eq_true_iff] at h
  exact ⟨h.1, of_decide_eq_true h.2⟩
theorem n_of_key {l : List UInt8} (h0 : l ≠ []) (h : valB l = false) (hk : keyB l = true) : (spl 47 l).length ≠ 1 := by
  rw [val_key h0, hk, Bool.true_and] at h
  exact of_decide_eq_false h
theorem no_verb {l : List UInt8} (h : labB l = false) : verbB l = false := by
  cases e : verbB l
  · rfl
  · rw [verb_lab e] at h; cases h
theorem no_val {l : List UInt8} (h : 63 < l.length) : valB l = false := by
  cases e : valB l
  · rfl
  · have := (valB_iff2.1 e).1; omega
theorem sub_ne {l : List UInt8} (h : subB l = true) : l ≠ [] := by
  rintro rfl
  exact absurd h (by decide +kernel)
theorem slash_data (t : ByteArray) : ((⟨#[47]⟩ : ByteArray) ++ t).data.toList = 47 :: t.data.toList := by rw [ByteArray.data_append, Array.toList_append]; rfl
theorem slash_size (t : ByteArray) : ((⟨#[47]⟩ : ByteArray) ++ t).size = t.size + 1 := by rw [ByteArray.size_append]; show 1 + t.size = _; omega
set_option maxRecDepth 100000 in
set_option maxHeartbeats 8000000 in
theorem within_walk (s : ByteArray) (more : Int) (w : World) (hm : MaxL w) :
    Calls Tryd.prog 5 #[.string s, .int .i64 more] w fun e w' => e = .returned (.bool true) ∧ Below w.heap.size w w' := by
  go_enter Tryd.func5, Tryd.ntmps5
  go_wp2_with fail
  refine (awake_any _ hm).mono ?_
  rintro e w1 ⟨rfl, hb1⟩
  have hm1 := hm.later hb1
  go_wp2_with fail
  refine (long_any s more _).mono ?_
  rintro e w2 ⟨t, ht, rfl, hb2⟩
  have HM := hm1.later hb2
  have HB := chain hb1 hb2
  clear hb1 hb2 hm1
  have Ht := Lib.hid (show t.size ≤ maxLen by unfold maxLen; omega)
  have Ht2 := Lib.hid (show t.size ≤ 100000 by omega)
  have cL := fun w => Label_any t Ht.out w
  have cS := fun w hm => Subdomain_any t Ht2.out w hm
  have cV := fun w => LabelValue_any t Ht.out w
  have cG := fun w => Segment_any t Ht.out w
  have cB := fun w => Verb_any t Ht.out w
  have cK := fun w hm => LabelKey_any t Ht2.out w hm
  have cN := fun w => names3_any t Ht2.out w
  have cP := fun w => Path_any ((⟨#[47]⟩ : ByteArray) ++ t) (by rw [slash_size]; unfold maxLen; omega) w
  rw [slash_data] at cP
  have hl63 : t.data.toList.length = t.size := len_data t
  have hlen : (((⟨#[47]⟩ : ByteArray) ++ t).size : Int) ≤ 2000 := by rw [slash_size]; omega
  cases hL : labB t.data.toList with
  | true =>
    have hS := lab_sub hL
    have h0 := lab_ne hL
    have hq := (labB_iff.1 hL).1
    have hV := sub_val hS hq.2
    obtain ⟨hK, hN⟩ := key_of_val h0 hV
    have hq2 : t.size ≤ 63 := by omega
    clear hq
    cases hG : segB t.data.toList with
    | true =>
      cases hB : verbB t.data.toList with
      | true =>
        rw [hL] at cL
        rw [hS] at cS
        rw [hG] at cG
        rw [hB] at cB
        rw [hV] at cV
        rw [hK] at cK
        rw [seg_path hG] at cP
        have h63' : (t.size : Int) ≤ 63 := by omega
        have he1 : t.toList.isEmpty = false := by rw [ByteArray.toList_eq]; simpa using h0
        have HN := Lib.hid hN
        clear hN
        clear hL hS hG hB hV hK h0 hl63
        go_wp2_with fail
        refine (cL _).mono ?_
        rintro e wk ⟨rfl, hbk⟩
        replace HM := HM.later hbk
        replace HB := chain HB hbk
        clear hbk
        go_wp2_with fail
        refine (cS _ HM).mono ?_
        rintro e wk ⟨rfl, hbk⟩
        replace HM := HM.later hbk
        replace HB := chain HB hbk
        clear hbk
        go_wp2_with fail
        refine (cS _ HM).mono ?_
        rintro e wk ⟨rfl, hbk⟩
        replace HM := HM.later hbk
        replace HB := chain HB hbk
        clear hbk
        go_wp2_with fail
        refine (cV _).mono ?_
        rintro e wk ⟨rfl, hbk⟩
        replace HM := HM.later hbk
        replace HB := chain HB hbk
        clear hbk
        go_wp2_with fail
        refine (cG _).mono ?_
        rintro e wk ⟨rfl, hbk⟩
        replace HM := HM.later hbk
        replace HB := chain HB hbk
        clear hbk
        go_wp2_with fail
        refine (cP _).mono ?_
        rintro e w' ⟨rfl, rfl⟩
        go_wp2_with fail
        refine (cB _).mono ?_
        rintro e w' ⟨rfl, rfl⟩
        go_wp2_with fail
        refine (cL _).mono ?_
        rintro e wk ⟨rfl, hbk⟩
        replace HM := HM.later hbk
        replace HB := chain HB hbk
        clear hbk
        go_wp2_with fail
        refine (cV _).mono ?_
        rintro e wk ⟨rfl, hbk⟩
        replace HM := HM.later hbk
        replace HB := chain HB hbk
        clear hbk
        go_wp2_with fail
        refine (cK _ HM).mono ?_
        rintro e wk ⟨rfl, hbk⟩
        replace HM := HM.later hbk
        replace HB := chain HB hbk
        clear hbk
        go_wp2_with fail
        refine (cN _).mono ?_
        rintro e wk ⟨g, cap, ps, rfl, hps, _, hbk⟩
        have hn : ps.length = (spl 47 t.data.toList).length := by rw [← hps, List.length_map]
        have hn1 : ((ps.length : Int) == 1) = true := beq_iff_eq.2 (by rw [hn, HN.out]; rfl)
        have HB2 := chain HB hbk
        clear hn hps
        generalize ps.length = n at *
        go_wp2
        go_ret
        exact ⟨rfl, HB2⟩
      | false =>
        rw [hL] at cL
        rw [hS] at cS
        rw [hG] at cG
        rw [hB] at cB
        rw [hV] at cV
        rw [hK] at cK
        rw [seg_path hG] at cP
        have h63' : (t.size : Int) ≤ 63 := by omega
        have he1 : t.toList.isEmpty = false := by rw [ByteArray.toList_eq]; simpa using h0
        have HN := Lib.hid hN
        clear hN
        clear hL hS hG hB hV hK h0 hl63
        go_wp2_with fail
        refine (cL _).mono ?_
        rintro e wk ⟨rfl, hbk⟩
        replace HM := HM.later hbk
        replace HB := chain HB hbk
        clear hbk
        go_wp2_with fail
        refine (cS _ HM).mono ?_
        rintro e wk ⟨rfl, hbk⟩
        replace HM := HM.later hbk
        replace HB := chain HB hbk
        clear hbk
        go_wp2_with fail
        refine (cS _ HM).mono ?_
        rintro e wk ⟨rfl, hbk⟩
        replace HM := HM.later hbk
        replace HB := chain HB hbk
        clear hbk
        go_wp2_with fail
        refine (cV _).mono ?_
        rintro e wk ⟨rfl, hbk⟩
        replace HM := HM.later hbk
        replace HB := chain HB hbk
        clear hbk
        go_wp2_with fail
        refine (cG _).mono ?_
        rintro e wk ⟨rfl, hbk⟩
        replace HM := HM.later hbk
        replace HB := chain HB hbk
        clear hbk
        go_wp2_with fail
        refine (cP _).mono ?_
        rintro e w' ⟨rfl, rfl⟩
        go_wp2_with fail
        refine (cB _).mono ?_
        rintro e w' ⟨rfl, rfl⟩
        go_wp2_with fail
        refine (cV _).mono ?_
        rintro e wk ⟨rfl, hbk⟩
        replace HM := HM.later hbk
        replace HB := chain HB hbk
        clear hbk
        go_wp2_with fail
        refine (cK _ HM).mono ?_
        rintro e wk ⟨rfl, hbk⟩
        replace HM := HM.later hbk
        replace HB := chain HB hbk
        clear hbk
        go_wp2_with fail
        refine (cN _).mono ?_
        rintro e wk ⟨g, cap, ps, rfl, hps, _, hbk⟩
        have hn : ps.length = (spl 47 t.data.toList).length := by rw [← hps, List.length_map]
        have hn1 : ((ps.length : Int) == 1) = true := beq_iff_eq.2 (by rw [hn, HN.out]; rfl)
        have HB2 := chain HB hbk
        clear hn hps
        generalize ps.length = n at *
        go_wp2
        go_ret
        exact ⟨rfl, HB2⟩
    | false =>
      cases hB : verbB t.data.toList with
      | true =>
        rw [hL] at cL
        rw [hS] at cS
        rw [hG] at cG
        rw [hB] at cB
        rw [hV] at cV
        rw [hK] at cK
        have h63' : (t.size : Int) ≤ 63 := by omega
        have he1 : t.toList.isEmpty = false := by rw [ByteArray.toList_eq]; simpa using h0
        have HN := Lib.hid hN
        clear hN
        clear hL hS hG hB hV hK h0 hl63
        go_wp2_with fail
        refine (cL _).mono ?_
        rintro e wk ⟨rfl, hbk⟩
        replace HM := HM.later hbk
        replace HB := chain HB hbk
        clear hbk
        go_wp2_with fail
        refine (cS _ HM).mono ?_
        rintro e wk ⟨rfl, hbk⟩
        replace HM := HM.later hbk
        replace HB := chain HB hbk
        clear hbk
        go_wp2_with fail
        refine (cS _ HM).mono ?_
        rintro e wk ⟨rfl, hbk⟩
        replace HM := HM.later hbk
        replace HB := chain HB hbk
        clear hbk
        go_wp2_with fail
        refine (cV _).mono ?_
        rintro e wk ⟨rfl, hbk⟩
        replace HM := HM.later hbk
        replace HB := chain HB hbk
        clear hbk
        go_wp2_with fail
        refine (cG _).mono ?_
        rintro e wk ⟨rfl, hbk⟩
        replace HM := HM.later hbk
        replace HB := chain HB hbk
        clear hbk
        go_wp2_with fail
        refine (cB _).mono ?_
        rintro e w' ⟨rfl, rfl⟩
        go_wp2_with fail
        refine (cL _).mono ?_
        rintro e wk ⟨rfl, hbk⟩
        replace HM := HM.later hbk
        replace HB := chain HB hbk
        clear hbk
        go_wp2_with fail
        refine (cV _).mono ?_
        rintro e wk ⟨rfl, hbk⟩
        replace HM := HM.later hbk
        replace HB := chain HB hbk
        clear hbk
        go_wp2_with fail
        refine (cK _ HM).mono ?_
        rintro e wk ⟨rfl, hbk⟩
        replace HM := HM.later hbk
        replace HB := chain HB hbk
        clear hbk
        go_wp2_with fail
        refine (cN _).mono ?_
        rintro e wk ⟨g, cap, ps, rfl, hps, _, hbk⟩
        have hn : ps.length = (spl 47 t.data.toList).length := by rw [← hps, List.length_map]
        have hn1 : ((ps.length : Int) == 1) = true := beq_iff_eq.2 (by rw [hn, HN.out]; rfl)
        have HB2 := chain HB hbk
        clear hn hps
        generalize ps.length = n at *
        go_wp2
        go_ret
        exact ⟨rfl, HB2⟩
      | false =>
        rw [hL] at cL
        rw [hS] at cS
        rw [hG] at cG
        rw [hB] at cB
        rw [hV] at cV
        rw [hK] at cK
        have h63' : (t.size : Int) ≤ 63 := by omega
        have he1 : t.toList.isEmpty = false := by rw [ByteArray.toList_eq]; simpa using h0
        have HN := Lib.hid hN
        clear hN
        clear hL hS hG hB hV hK h0 hl63
        go_wp2_with fail
        refine (cL _).mono ?_
        rintro e wk ⟨rfl, hbk⟩
        replace HM := HM.later hbk
        replace HB := chain HB hbk
        clear hbk
        go_wp2_with fail
        refine (cS _ HM).mono ?_
        rintro e wk ⟨rfl, hbk⟩
        replace HM := HM.later hbk
        replace HB := chain HB hbk
        clear hbk
        go_wp2_with fail
        refine (cS _ HM).mono ?_
        rintro e wk ⟨rfl, hbk⟩
        replace HM := HM.later hbk
        replace HB := chain HB hbk
        clear hbk
        go_wp2_with fail
        refine (cV _).mono ?_
        rintro e wk ⟨rfl, hbk⟩
        replace HM := HM.later hbk
        replace HB := chain HB hbk
        clear hbk
        go_wp2_with fail
        refine (cG _).mono ?_
        rintro e wk ⟨rfl, hbk⟩
        replace HM := HM.later hbk
        replace HB := chain HB hbk
        clear hbk
        go_wp2_with fail
        refine (cB _).mono ?_
        rintro e w' ⟨rfl, rfl⟩
        go_wp2_with fail
        refine (cV _).mono ?_
        rintro e wk ⟨rfl, hbk⟩
        replace HM := HM.later hbk
        replace HB := chain HB hbk
        clear hbk
        go_wp2_with fail
        refine (cK _ HM).mono ?_
        rintro e wk ⟨rfl, hbk⟩
        replace HM := HM.later hbk
        replace HB := chain HB hbk
        clear hbk
        go_wp2_with fail
        refine (cN _).mono ?_
        rintro e wk ⟨g, cap, ps, rfl, hps, _, hbk⟩
        have hn : ps.length = (spl 47 t.data.toList).length := by rw [← hps, List.length_map]
        have hn1 : ((ps.length : Int) == 1) = true := beq_iff_eq.2 (by rw [hn, HN.out]; rfl)
        have HB2 := chain HB hbk
        clear hn hps
        generalize ps.length = n at *
        go_wp2
        go_ret
        exact ⟨rfl, HB2⟩
  | false =>
    cases hS : subB t.data.toList with
    | true =>
      have hB := no_verb hL
      have h0 := sub_ne hS
      by_cases hq2 : t.size ≤ 63
      · have hV := sub_val hS (by omega)
        obtain ⟨hK, hN⟩ := key_of_val h0 hV
        cases hG : segB t.data.toList with
        | true =>
          rw [hL] at cL
          rw [hS] at cS
          rw [hG] at cG
          rw [hB] at cB
          rw [hV] at cV
          rw [hK] at cK
          rw [seg_path hG] at cP
          have h63' : (t.size : Int) ≤ 63 := by omega
          have he1 : t.toList.isEmpty = false := by rw [ByteArray.toList_eq]; simpa using h0
          have HN := Lib.hid hN
          clear hN
          clear hL hS hG hB hV hK h0 hl63
          go_wp2_with fail
          refine (cL _).mono ?_
          rintro e wk ⟨rfl, hbk⟩
          replace HM := HM.later hbk
          replace HB := chain HB hbk
          clear hbk
          go_wp2_with fail
          refine (cS _ HM).mono ?_
          rintro e wk ⟨rfl, hbk⟩
          replace HM := HM.later hbk
          replace HB := chain HB hbk
          clear hbk
          go_wp2_with fail
          refine (cV _).mono ?_
          rintro e wk ⟨rfl, hbk⟩
          replace HM := HM.later hbk
          replace HB := chain HB hbk
          clear hbk
          go_wp2_with fail
          refine (cG _).mono ?_
          rintro e wk ⟨rfl, hbk⟩
          replace HM := HM.later hbk
          replace HB := chain HB hbk
          clear hbk
          go_wp2_with fail
          refine (cP _).mono ?_
          rintro e w' ⟨rfl, rfl⟩
          go_wp2_with fail
          refine (cB _).mono ?_
          rintro e w' ⟨rfl, rfl⟩
          go_wp2_with fail
          refine (cV _).mono ?_
          rintro e wk ⟨rfl, hbk⟩
          replace HM := HM.later hbk
          replace HB := chain HB hbk
          clear hbk
          go_wp2_with fail
          refine (cK _ HM).mono ?_
          rintro e wk ⟨rfl, hbk⟩
          replace HM := HM.later hbk
          replace HB := chain HB hbk
          clear hbk
          go_wp2_with fail
          refine (cN _).mono ?_
          rintro e wk ⟨g, cap, ps, rfl, hps, _, hbk⟩
          have hn : ps.length = (spl 47 t.data.toList).length := by rw [← hps, List.length_map]
          have hn1 : ((ps.length : Int) == 1) = true := beq_iff_eq.2 (by rw [hn, HN.out]; rfl)
          have HB2 := chain HB hbk
          clear hn hps
          generalize ps.length = n at *
          go_wp2
          go_ret
          exact ⟨rfl, HB2⟩
        | false =>
          rw [hL] at cL
          rw [hS] at cS
          rw [hG] at cG
          rw [hB] at cB
          rw [hV] at cV
          rw [hK] at cK
          have h63' : (t.size : Int) ≤ 63 := by omega
          have he1 : t.toList.isEmpty = false := by rw [ByteArray.toList_eq]; simpa using h0
          have HN := Lib.hid hN
          clear hN
          clear hL hS hG hB hV hK h0 hl63
          go_wp2_with fail
          refine (cL _).mono ?_
          rintro e wk ⟨rfl, hbk⟩
          replace HM := HM.later hbk
          replace HB := chain HB hbk
          clear hbk
          go_wp2_with fail
          refine (cS _ HM).mono ?_
          rintro e wk ⟨rfl, hbk⟩
          replace HM := HM.later hbk
          replace HB := chain HB hbk
          clear hbk
          go_wp2_with fail
          refine (cV _).mono ?_
          rintro e wk ⟨rfl, hbk⟩
          replace HM := HM.later hbk
          replace HB := chain HB hbk
          clear hbk
          go_wp2_with fail
          refine (cG _).mono ?_
          rintro e wk ⟨rfl, hbk⟩
          replace HM := HM.later hbk
          replace HB := chain HB hbk
          clear hbk
          go_wp2_with fail
          refine (cB _).mono ?_
          rintro e w' ⟨rfl, rfl⟩
          go_wp2_with fail
          refine (cV _).mono ?_
          rintro e wk ⟨rfl, hbk⟩
          replace HM := HM.later hbk
          replace HB := chain HB hbk
          clear hbk
          go_wp2_with fail
          refine (cK _ HM).mono ?_
          rintro e wk ⟨rfl, hbk⟩
          replace HM := HM.later hbk
          replace HB := chain HB hbk
          clear hbk
          go_wp2_with fail
          refine (cN _).mono ?_
          rintro e wk ⟨g, cap, ps, rfl, hps, _, hbk⟩
          have hn : ps.length = (spl 47 t.data.toList).length := by rw [← hps, List.length_map]
          have hn1 : ((ps.length : Int) == 1) = true := beq_iff_eq.2 (by rw [hn, HN.out]; rfl)
          have HB2 := chain HB hbk
          clear hn hps
          generalize ps.length = n at *
          go_wp2
          go_ret
          exact ⟨rfl, HB2⟩
      · have hV := no_val (l := t.data.toList) (by omega)
        cases hK : keyB t.data.toList with
        | true =>
          have hN := n_of_key h0 hV hK
          cases hG : segB t.data.toList with
          | true =>
            rw [hL] at cL
            rw [hS] at cS
            rw [hG] at cG
            rw [hB] at cB
            rw [hV] at cV
            rw [hK] at cK
            rw [seg_path hG] at cP
            have h63' : ¬ (t.size : Int) ≤ 63 := by omega
            have he1 : t.toList.isEmpty = false := by rw [ByteArray.toList_eq]; simpa using h0
            have HN := Lib.hid hN
            clear hN
            clear hL hS hG hB hV hK h0 hl63
            go_wp2_with fail
            refine (cL _).mono ?_
            rintro e wk ⟨rfl, hbk⟩
            replace HM := HM.later hbk
            replace HB := chain HB hbk
            clear hbk
            go_wp2_with fail
            refine (cS _ HM).mono ?_
            rintro e wk ⟨rfl, hbk⟩
            replace HM := HM.later hbk
            replace HB := chain HB hbk
            clear hbk
            go_wp2_with fail
            refine (cG _).mono ?_
            rintro e wk ⟨rfl, hbk⟩
            replace HM := HM.later hbk
            replace HB := chain HB hbk
            clear hbk
            go_wp2_with fail
            refine (cP _).mono ?_
            rintro e w' ⟨rfl, rfl⟩
            go_wp2_with fail
            refine (cB _).mono ?_
            rintro e w' ⟨rfl, rfl⟩
            go_wp2_with fail
            refine (cV _).mono ?_
            rintro e wk ⟨rfl, hbk⟩
            replace HM := HM.later hbk
            replace HB := chain HB hbk
            clear hbk
            go_wp2_with fail
            refine (cK _ HM).mono ?_
            rintro e wk ⟨rfl, hbk⟩
            replace HM := HM.later hbk
            replace HB := chain HB hbk
            clear hbk
            go_wp2_with fail
            refine (cN _).mono ?_
            rintro e wk ⟨g, cap, ps, rfl, hps, _, hbk⟩
            have hn : ps.length = (spl 47 t.data.toList).length := by rw [← hps, List.length_map]
            have hn1 : ((ps.length : Int) == 1) = false := beq_eq_false_iff_ne.2 (fun e => HN.out (by rw [← hn]; omega))
            have HB2 := chain HB hbk
            clear hn hps
            generalize ps.length = n at *
            go_wp2
            go_ret
            exact ⟨rfl, HB2⟩
          | false =>
            rw [hL] at cL
            rw [hS] at cS
            rw [hG] at cG
            rw [hB] at cB
            rw [hV] at cV
            rw [hK] at cK
            have h63' : ¬ (t.size : Int) ≤ 63 := by omega
            have he1 : t.toList.isEmpty = false := by rw [ByteArray.toList_eq]; simpa using h0
            have HN := Lib.hid hN
            clear hN
            clear hL hS hG hB hV hK h0 hl63
            go_wp2_with fail
            refine (cL _).mono ?_
            rintro e wk ⟨rfl, hbk⟩
            replace HM := HM.later hbk
            replace HB := chain HB hbk
            clear hbk
            go_wp2_with fail
            refine (cS _ HM).mono ?_
            rintro e wk ⟨rfl, hbk⟩
            replace HM := HM.later hbk
            replace HB := chain HB hbk
            clear hbk
            go_wp2_with fail
            refine (cG _).mono ?_
            rintro e wk ⟨rfl, hbk⟩
            replace HM := HM.later hbk
            replace HB := chain HB hbk
            clear hbk
            go_wp2_with fail
            refine (cB _).mono ?_
            rintro e w' ⟨rfl, rfl⟩
            go_wp2_with fail
            refine (cV _).mono ?_
            rintro e wk ⟨rfl, hbk⟩
            replace HM := HM.later hbk
            replace HB := chain HB hbk
            clear hbk
            go_wp2_with fail
            refine (cK _ HM).mono ?_
            rintro e wk ⟨rfl, hbk⟩
            replace HM := HM.later hbk
            replace HB := chain HB hbk
            clear hbk
            go_wp2_with fail
            refine (cN _).mono ?_
            rintro e wk ⟨g, cap, ps, rfl, hps, _, hbk⟩
            have hn : ps.length = (spl 47 t.data.toList).length := by rw [← hps, List.length_map]
            have hn1 : ((ps.length : Int) == 1) = false := beq_eq_false_iff_ne.2 (fun e => HN.out (by rw [← hn]; omega))
            have HB2 := chain HB hbk
            clear hn hps
            generalize ps.length = n at *
            go_wp2
            go_ret
            exact ⟨rfl, HB2⟩
        | false =>
          cases hG : segB t.data.toList with
          | true =>
            rw [hL] at cL
            rw [hS] at cS
            rw [hG] at cG
            rw [hB] at cB
            rw [hV] at cV
            rw [hK] at cK
            rw [seg_path hG] at cP
            have h63' : ¬ (t.size : Int) ≤ 63 := by omega
            have he1 : t.toList.isEmpty = false := by rw [ByteArray.toList_eq]; simpa using h0
            clear hL hS hG hB hV hK h0 hl63
            go_wp2_with fail
            refine (cL _).mono ?_
            rintro e wk ⟨rfl, hbk⟩
            replace HM := HM.later hbk
            replace HB := chain HB hbk
            clear hbk
            go_wp2_with fail
            refine (cS _ HM).mono ?_
            rintro e wk ⟨rfl, hbk⟩
            replace HM := HM.later hbk
            replace HB := chain HB hbk
            clear hbk
            go_wp2_with fail
            refine (cG _).mono ?_
            rintro e wk ⟨rfl, hbk⟩
            replace HM := HM.later hbk
            replace HB := chain HB hbk
            clear hbk
            go_wp2_with fail
            refine (cP _).mono ?_
            rintro e w' ⟨rfl, rfl⟩
            go_wp2_with fail
            refine (cB _).mono ?_
            rintro e w' ⟨rfl, rfl⟩
            go_wp2_with fail
            refine (cV _).mono ?_
            rintro e wk ⟨rfl, hbk⟩
            replace HM := HM.later hbk
            replace HB := chain HB hbk
            clear hbk
            go_wp2_with fail
            refine (cK _ HM).mono ?_
            rintro e wk ⟨rfl, hbk⟩
            replace HM := HM.later hbk
            replace HB := chain HB hbk
            clear hbk
            go_wp2
            go_ret
            exact ⟨rfl, HB⟩
          | false =>
            rw [hL] at cL
            rw [hS] at cS
            rw [hG] at cG
            rw [hB] at cB
            rw [hV] at cV
            rw [hK] at cK
            have h63' : ¬ (t.size : Int) ≤ 63 := by omega
            have he1 : t.toList.isEmpty = false := by rw [ByteArray.toList_eq]; simpa using h0
            clear hL hS hG hB hV hK h0 hl63
            go_wp2_with fail
            refine (cL _).mono ?_
            rintro e wk ⟨rfl, hbk⟩
            replace HM := HM.later hbk
            replace HB := chain HB hbk
            clear hbk
            go_wp2_with fail
            refine (cS _ HM).mono ?_
            rintro e wk ⟨rfl, hbk⟩
            replace HM := HM.later hbk
            replace HB := chain HB hbk
            clear hbk
            go_wp2_with fail
            refine (cG _).mono ?_
            rintro e wk ⟨rfl, hbk⟩
            replace HM := HM.later hbk
            replace HB := chain HB hbk
            clear hbk
            go_wp2_with fail
            refine (cB _).mono ?_
            rintro e w' ⟨rfl, rfl⟩
            go_wp2_with fail
            refine (cV _).mono ?_
            rintro e wk ⟨rfl, hbk⟩
            replace HM := HM.later hbk
            replace HB := chain HB hbk
            clear hbk
            go_wp2_with fail
            refine (cK _ HM).mono ?_
            rintro e wk ⟨rfl, hbk⟩
            replace HM := HM.later hbk
            replace HB := chain HB hbk
            clear hbk
            go_wp2
            go_ret
            exact ⟨rfl, HB⟩
    | false =>
      have hB := no_verb hL
      by_cases h0 : t.data.toList = []
      · have hG : segB t.data.toList = false := by rw [h0]; rfl
        rw [hL] at cL
        rw [hS] at cS
        rw [hG] at cG
        rw [hB] at cB
        have ht0 : t = ⟨#[]⟩ := ByteArray.ext (Array.toList_inj.1 h0)
        subst ht0
        clear hL hS hG hB h0 hl63 hlen cP cK cV cN
        go_wp2_with fail
        refine (cL _).mono ?_
        rintro e wk ⟨rfl, hbk⟩
        replace HM := HM.later hbk
        replace HB := chain HB hbk
        clear hbk
        go_wp2_with fail
        refine (cS _ HM).mono ?_
        rintro e wk ⟨rfl, hbk⟩
        replace HM := HM.later hbk
        replace HB := chain HB hbk
        clear hbk
        go_wp2_with fail
        refine (cG _).mono ?_
        rintro e wk ⟨rfl, hbk⟩
        replace HM := HM.later hbk
        replace HB := chain HB hbk
        clear hbk
        go_wp2_with fail
        refine (cB _).mono ?_
        rintro e w' ⟨rfl, rfl⟩
        go_wp2
        go_ret
        exact ⟨rfl, HB⟩
      · skip
        cases hV : valB t.data.toList with
        | true =>
          obtain ⟨hK, hN⟩ := key_of_val h0 hV
          cases hG : segB t.data.toList with
          | true =>
            rw [hL] at cL
            rw [hS] at cS
            rw [hG] at cG
            rw [hB] at cB
            rw [hV] at cV
            rw [hK] at cK
            rw [seg_path hG] at cP
            have he1 : t.toList.isEmpty = false := by rw [ByteArray.toList_eq]; simpa using h0
            have HN := Lib.hid hN
            clear hN
            clear hL hS hG hB hV hK h0 hl63
            go_wp2_with fail
            refine (cL _).mono ?_
            rintro e wk ⟨rfl, hbk⟩
            replace HM := HM.later hbk
            replace HB := chain HB hbk
            clear hbk
            go_wp2_with fail
            refine (cS _ HM).mono ?_
            rintro e wk ⟨rfl, hbk⟩
            replace HM := HM.later hbk
            replace HB := chain HB hbk
            clear hbk
            go_wp2_with fail
            refine (cG _).mono ?_
            rintro e wk ⟨rfl, hbk⟩
            replace HM := HM.later hbk
            replace HB := chain HB hbk
            clear hbk
            go_wp2_with fail
            refine (cP _).mono ?_
            rintro e w' ⟨rfl, rfl⟩
            go_wp2_with fail
            refine (cB _).mono ?_
            rintro e w' ⟨rfl, rfl⟩
            go_wp2_with fail
            refine (cV _).mono ?_
            rintro e wk ⟨rfl, hbk⟩
            replace HM := HM.later hbk
            replace HB := chain HB hbk
            clear hbk
            go_wp2_with fail
            refine (cK _ HM).mono ?_
            rintro e wk ⟨rfl, hbk⟩
            replace HM := HM.later hbk
            replace HB := chain HB hbk
            clear hbk
            go_wp2_with fail
            refine (cN _).mono ?_
            rintro e wk ⟨g, cap, ps, rfl, hps, _, hbk⟩
            have hn : ps.length = (spl 47 t.data.toList).length := by rw [← hps, List.length_map]
            have hn1 : ((ps.length : Int) == 1) = true := beq_iff_eq.2 (by rw [hn, HN.out]; rfl)
            have HB2 := chain HB hbk
            clear hn hps
            generalize ps.length = n at *
            go_wp2
            go_ret
            exact ⟨rfl, HB2⟩
          | false =>
            rw [hL] at cL
            rw [hS] at cS
            rw [hG] at cG
            rw [hB] at cB
            rw [hV] at cV
            rw [hK] at cK
            have he1 : t.toList.isEmpty = false := by rw [ByteArray.toList_eq]; simpa using h0
            have HN := Lib.hid hN
            clear hN
            clear hL hS hG hB hV hK h0 hl63
            go_wp2_with fail
            refine (cL _).mono ?_
            rintro e wk ⟨rfl, hbk⟩
            replace HM := HM.later hbk
            replace HB := chain HB hbk
            clear hbk
            go_wp2_with fail
            refine (cS _ HM).mono ?_
            rintro e wk ⟨rfl, hbk⟩
            replace HM := HM.later hbk
            replace HB := chain HB hbk
            clear hbk
            go_wp2_with fail
            refine (cG _).mono ?_
            rintro e wk ⟨rfl, hbk⟩
            replace HM := HM.later hbk
            replace HB := chain HB hbk
            clear hbk
            go_wp2_with fail
            refine (cB _).mono ?_
            rintro e w' ⟨rfl, rfl⟩
            go_wp2_with fail
            refine (cV _).mono ?_
            rintro e wk ⟨rfl, hbk⟩
            replace HM := HM.later hbk
            replace HB := chain HB hbk
            clear hbk
            go_wp2_with fail
            refine (cK _ HM).mono ?_
            rintro e wk ⟨rfl, hbk⟩
            replace HM := HM.later hbk
            replace HB := chain HB hbk
            clear hbk
            go_wp2_with fail
            refine (cN _).mono ?_
            rintro e wk ⟨g, cap, ps, rfl, hps, _, hbk⟩
            have hn : ps.length = (spl 47 t.data.toList).length := by rw [← hps, List.length_map]
            have hn1 : ((ps.length : Int) == 1) = true := beq_iff_eq.2 (by rw [hn, HN.out]; rfl)
            have HB2 := chain HB hbk
            clear hn hps
            generalize ps.length = n at *
            go_wp2
            go_ret
            exact ⟨rfl, HB2⟩
        | false =>
          cases hK : keyB t.data.toList with
          | true =>
            have hN := n_of_key h0 hV hK
            cases hG : segB t.data.toList with
            | true =>
              rw [hL] at cL
              rw [hS] at cS
              rw [hG] at cG
              rw [hB] at cB
              rw [hV] at cV
              rw [hK] at cK
              rw [seg_path hG] at cP
              have he1 : t.toList.isEmpty = false := by rw [ByteArray.toList_eq]; simpa using h0
              have HN := Lib.hid hN
              clear hN
              clear hL hS hG hB hV hK h0 hl63
              go_wp2_with fail
              refine (cL _).mono ?_
              rintro e wk ⟨rfl, hbk⟩
              replace HM := HM.later hbk
              replace HB := chain HB hbk
              clear hbk
              go_wp2_with fail
              refine (cS _ HM).mono ?_
              rintro e wk ⟨rfl, hbk⟩
              replace HM := HM.later hbk
              replace HB := chain HB hbk
              clear hbk
              go_wp2_with fail
              refine (cG _).mono ?_
              rintro e wk ⟨rfl, hbk⟩
              replace HM := HM.later hbk
              replace HB := chain HB hbk
              clear hbk
              go_wp2_with fail
              refine (cP _).mono ?_
              rintro e w' ⟨rfl, rfl⟩
              go_wp2_with fail
              refine (cB _).mono ?_
              rintro e w' ⟨rfl, rfl⟩
              go_wp2_with fail
              refine (cV _).mono ?_
              rintro e wk ⟨rfl, hbk⟩
              replace HM := HM.later hbk
              replace HB := chain HB hbk
              clear hbk
              go_wp2_with fail
              refine (cK _ HM).mono ?_
              rintro e wk ⟨rfl, hbk⟩
              replace HM := HM.later hbk
              replace HB := chain HB hbk
              clear hbk
              go_wp2_with fail
              refine (cN _).mono ?_
              rintro e wk ⟨g, cap, ps, rfl, hps, _, hbk⟩
              have hn : ps.length = (spl 47 t.data.toList).length := by rw [← hps, List.length_map]
              have hn1 : ((ps.length : Int) == 1) = false := beq_eq_false_iff_ne.2 (fun e => HN.out (by rw [← hn]; omega))
              have HB2 := chain HB hbk
              clear hn hps
              generalize ps.length = n at *
              go_wp2
              go_ret
              exact ⟨rfl, HB2⟩
            | false =>
              rw [hL] at cL
              rw [hS] at cS
              rw [hG] at cG
              rw [hB] at cB
              rw [hV] at cV
              rw [hK] at cK
              have he1 : t.toList.isEmpty = false := by rw [ByteArray.toList_eq]; simpa using h0
              have HN := Lib.hid hN
              clear hN
              clear hL hS hG hB hV hK h0 hl63
              go_wp2_with fail
              refine (cL _).mono ?_
              rintro e wk ⟨rfl, hbk⟩
              replace HM := HM.later hbk
              replace HB := chain HB hbk
              clear hbk
              go_wp2_with fail
              refine (cS _ HM).mono ?_
              rintro e wk ⟨rfl, hbk⟩
              replace HM := HM.later hbk
              replace HB := chain HB hbk
              clear hbk
              go_wp2_with fail
              refine (cG _).mono ?_
              rintro e wk ⟨rfl, hbk⟩
              replace HM := HM.later hbk
              replace HB := chain HB hbk
              clear hbk
              go_wp2_with fail
              refine (cB _).mono ?_
              rintro e w' ⟨rfl, rfl⟩
              go_wp2_with fail
              refine (cV _).mono ?_
              rintro e wk ⟨rfl, hbk⟩
              replace HM := HM.later hbk
              replace HB := chain HB hbk
              clear hbk
              go_wp2_with fail
              refine (cK _ HM).mono ?_
              rintro e wk ⟨rfl, hbk⟩
              replace HM := HM.later hbk
              replace HB := chain HB hbk
              clear hbk
              go_wp2_with fail
              refine (cN _).mono ?_
              rintro e wk ⟨g, cap, ps, rfl, hps, _, hbk⟩
              have hn : ps.length = (spl 47 t.data.toList).length := by rw [← hps, List.length_map]
              have hn1 : ((ps.length : Int) == 1) = false := beq_eq_false_iff_ne.2 (fun e => HN.out (by rw [← hn]; omega))
              have HB2 := chain HB hbk
              clear hn hps
              generalize ps.length = n at *
              go_wp2
              go_ret
              exact ⟨rfl, HB2⟩
          | false =>
            cases hG : segB t.data.toList with
            | true =>
              rw [hL] at cL
              rw [hS] at cS
              rw [hG] at cG
              rw [hB] at cB
              rw [hV] at cV
              rw [hK] at cK
              rw [seg_path hG] at cP
              have he1 : t.toList.isEmpty = false := by rw [ByteArray.toList_eq]; simpa using h0
              clear hL hS hG hB hV hK h0 hl63
              go_wp2_with fail
              refine (cL _).mono ?_
              rintro e wk ⟨rfl, hbk⟩
              replace HM := HM.later hbk
              replace HB := chain HB hbk
              clear hbk
              go_wp2_with fail
              refine (cS _ HM).mono ?_
              rintro e wk ⟨rfl, hbk⟩
              replace HM := HM.later hbk
              replace HB := chain HB hbk
              clear hbk
              go_wp2_with fail
              refine (cG _).mono ?_
              rintro e wk ⟨rfl, hbk⟩
              replace HM := HM.later hbk
              replace HB := chain HB hbk
              clear hbk
              go_wp2_with fail
              refine (cP _).mono ?_
              rintro e w' ⟨rfl, rfl⟩
              go_wp2_with fail
              refine (cB _).mono ?_
              rintro e w' ⟨rfl, rfl⟩
              go_wp2_with fail
              refine (cV _).mono ?_
              rintro e wk ⟨rfl, hbk⟩
              replace HM := HM.later hbk
              replace HB := chain HB hbk
              clear hbk
              go_wp2_with fail
              refine (cK _ HM).mono ?_
              rintro e wk ⟨rfl, hbk⟩
              replace HM := HM.later hbk
              replace HB := chain HB hbk
              clear hbk
              go_wp2
              go_ret
              exact ⟨rfl, HB⟩
            | false =>
              rw [hL] at cL
              rw [hS] at cS
              rw [hG] at cG
              rw [hB] at cB
              rw [hV] at cV
              rw [hK] at cK
              have he1 : t.toList.isEmpty = false := by rw [ByteArray.toList_eq]; simpa using h0
              clear hL hS hG hB hV hK h0 hl63
              go_wp2_with fail
              refine (cL _).mono ?_
              rintro e wk ⟨rfl, hbk⟩
              replace HM := HM.later hbk
              replace HB := chain HB hbk
              clear hbk
              go_wp2_with fail
              refine (cS _ HM).mono ?_
              rintro e wk ⟨rfl, hbk⟩
              replace HM := HM.later hbk
              replace HB := chain HB hbk
              clear hbk
              go_wp2_with fail
              refine (cG _).mono ?_
              rintro e wk ⟨rfl, hbk⟩
              replace HM := HM.later hbk
              replace HB := chain HB hbk
              clear hbk
              go_wp2_with fail
              refine (cB _).mono ?_
              rintro e w' ⟨rfl, rfl⟩
              go_wp2_with fail
              refine (cV _).mono ?_
              rintro e wk ⟨rfl, hbk⟩
              replace HM := HM.later hbk
              replace HB := chain HB hbk
              clear hbk
              go_wp2_with fail
              refine (cK _ HM).mono ?_
              rintro e wk ⟨rfl, hbk⟩
              replace HM := HM.later hbk
              replace HB := chain HB hbk
              clear hbk
              go_wp2
              go_ret
              exact ⟨rfl, HB⟩
end Go.Proofs.YtdiighgnlckllaaDoor.nam
