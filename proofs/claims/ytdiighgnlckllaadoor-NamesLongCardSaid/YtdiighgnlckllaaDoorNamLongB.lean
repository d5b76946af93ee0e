/- Layer 3: the walk of NamesLong at some lengths. -/
import Derived.Test.YtdiighgnlckllaaDoorNamLongPure
namespace Go.Proofs.YtdiighgnlckllaaDoor.nam
open Go.RowKit Go.Shelf

set_option maxRecDepth 100000 in
set_option maxHeartbeats 4000000 in
theorem longlaw_c2 (n parts : Int) (k : Nat) (hk : (wrap64 (n.tmod 601 + 601)).tmod 601 = k) (c1 : 33 ≤ k) (c2 : k ≤ 63) (w : World) (hm : MaxL w) :
    Calls Tryd.prog 8 #[.int .i64 n, .int .i64 parts] w fun e w' => e = .returned (.bool true) ∧ Below w.heap.size w w' := by
  have hk6 : (k : Int) < 601 := by omega
  obtain ⟨m, hmm, hm7⟩ := wr_mod parts 8 (by omega) (by omega)
  have Hk := Lib.hid hk
  have Hm := Lib.hid hmm
  clear hk hmm
  obtain ⟨i0, hi, hz0, hz1, hz2⟩ := info_parts info_u8
  have hmk : ∀ W : World, (Instr.makeSlice 31 (.int .i64 (k : Int)) (.int .i64 (k : Int))).run Tryd.prog W = .ok (.slice (some ⟨W.heap.size, 0, none⟩) k k) (W.alloc (.cells (madeCells #[.int .u8 0] k) 5)) := fun W => by
    have := run_make (P := Tryd.prog) W 31 5 i0 (.int .u8 0) Tryd.underlying31 hi hz0 .i64 .i64 k k (by omega) (Int.le_refl _) (by rw [hz2]; omega) (by omega)
    rw [hz1, Nat.mul_one, Int.toNat_natCast] at this
    exact this
  go_enter Tryd.func8, Tryd.ntmps8
  go_wp2_with fail
  refine (awake_any _ hm).mono ?_
  rintro e w1 ⟨rfl, hb1⟩
  go_upto_region 3 with (fail)
  rw [Hk.out]
  go_wp2
  have hrow0 : (w1.alloc (.cells (madeCells #[.int .u8 0] k) 5)).ownsRow w1.heap.size 5 1 (.slice (some ⟨w1.heap.size, 0, none⟩) k k) k (u8s (fillA 0 k)) := by
    have := World.ownsRow_lit (base := w1.heap.size) (e := 5) (size := 1) w1 (madeCells #[.int .u8 0] k) k (Nat.le_refl _) (by unfold maxLen; omega) (by rw [size_madeCells, Nat.mul_one])
    rw [toList_madeCells_one] at this
    have e : u8s (fillA 0 k) = List.replicate k (.int .u8 0) := by unfold u8s fillA; simp
    rw [e]; exact this
  have hbA : Below w.heap.size w (w1.alloc (.cells (madeCells #[.int .u8 0] k) 5)) := hb1.alloc hb1.size _
  clear hmk
  go_loopw [8] (fun a wr => ∃ i : Nat, a = .int .i64 i ∧ i ≤ k ∧ wr.ownsRow w1.heap.size 5 1 (.slice (some ⟨w1.heap.size, 0, none⟩) k k) k (u8s (fillA i k)) ∧ Below w.heap.size w wr) (fun a _ => k - (intOf a).toNat)
  case atStart => exact ⟨0, rfl, by omega, hrow0, hbA⟩
  case round =>
    obtain ⟨i, rfl, hik, hrow, hB⟩ := hrel
    by_cases hlt : i < k
    · have hcell : wr.cell? ⟨w1.heap.size, i, none⟩ = some (.int .u8 0) := by
        rw [hrow.cellAt i (by omega)]
        unfold u8s fillA
        rw [List.map_append, List.getElem?_append_right (by simp), List.length_map, List.length_replicate, Nat.sub_self, List.getElem?_map, List.getElem?_replicate, if_pos (by omega)]
        rfl
      have hfr := hrow.frozenAt i
      have hst := (hrow.stored i (.int .u8 97)).1
      rw [fill_set i k hlt] at hst
      have hBs := hB.setCell (p := ⟨w1.heap.size, i, none⟩) hb1.size (.int .u8 97)
      go_wp2
      go_roundw
      case rel => exact ⟨i + 1, by go_num, by omega, hst, hBs⟩
      case measure => simp [intOf]; omega
    · obtain rfl : i = k := by omega
      have hcv : (convert 31 9 (.slice (some ⟨w1.heap.size, 0, none⟩) i i)).run Tryd.prog wr = .ok (.string ⟨(As i).toArray⟩) wr := by
        rw [conv_own hrow]
        unfold fillA
        rw [Nat.sub_self, List.replicate_zero, List.append_nil, strOf_As]
      go_upto_region 11 with (fail)
      rw [Hm.out]
      go_wp2
      have hsa : (⟨(As i).toArray⟩ : ByteArray).size = i := by rw [size_mk]; unfold As; rw [List.length_replicate]
      have Hsa := Lib.hid hsa
      clear hsa hcv
      go_loop [10, 12] (fun v a => ∃ j : Nat, a = .int .i64 j ∧ j ≤ m ∧ v = .string ⟨(pp j).toArray⟩) (fun _ a => m - (intOf a).toNat)
      case atStart => exact ⟨0, rfl, by omega, rfl⟩
      case round =>
        obtain ⟨j, rfl, hjm, rfl⟩ := hrel
        have hpl := pp_len' j (by omega)
        have hpi : ((pp j).length : Int) ≤ 400 := by omega
        have hps : ((⟨(pp j).toArray⟩ : ByteArray).size : Int) ≤ 400 := by rw [size_mk]; exact Int.ofNat_le.2 hpl
        by_cases hlt : j < m
        · by_cases h0 : 0 < j
          · have Hv := Lib.hid (show Value.string (((⟨(pp j).toArray⟩ : ByteArray) ++ ⟨#[46]⟩) ++ ⟨fifty.toArray⟩) = .string ⟨(pp (j + 1)).toArray⟩ by rw [pp, if_pos h0, ← cat_val, ← Value.string.inj (cat_val (pp j) [46])])
            go_wp2
            go_round
            case rel => exact ⟨j + 1, by go_num, by omega, Hv.out⟩
            case measure => simp [intOf]; omega
          · have Hv := Lib.hid (show Value.string ((⟨(pp j).toArray⟩ : ByteArray) ++ ⟨fifty.toArray⟩) = .string ⟨(pp (j + 1)).toArray⟩ by rw [pp, if_neg h0, cat_val])
            go_wp2
            go_round
            case rel => exact ⟨j + 1, by go_num, by omega, Hv.out⟩
            case measure => simp [intOf]; omega
        · obtain rfl : j = m := by omega
          have HM := hm.later hB
          have cL : ∀ w, Calls Tryd.prog 11 #[.string ⟨(As i).toArray⟩] w fun e w' => e = .returned (.bool (labB (As i))) ∧ Below w.heap.size w w' := fun w => Label_any _ (by rw [Hsa.out]; unfold maxLen; omega) w
          have cV : ∀ w, Calls Tryd.prog 17 #[.string ⟨(As i).toArray⟩] w fun e w' => e = .returned (.bool (valB (As i))) ∧ Below w.heap.size w w' := fun w => LabelValue_any _ (by rw [Hsa.out]; unfold maxLen; omega) w
          have cG : ∀ w, Calls Tryd.prog 15 #[.string ⟨(As i).toArray⟩] w fun e w' => e = .returned (.bool (segB (As i))) ∧ Below w.heap.size w w' := fun w => Segment_any _ (by rw [Hsa.out]; unfold maxLen; omega) w
          have cB : ∀ w, Calls Tryd.prog 21 #[.string ⟨(As i).toArray⟩] w fun e w' => e = .returned (.bool (verbB (As i))) ∧ w = w' := fun w => Verb_any _ (by rw [Hsa.out]; unfold maxLen; omega) w
          have cP : ∀ w, Calls Tryd.prog 23 #[.string ((⟨#[47]⟩ : ByteArray) ++ ⟨(As i).toArray⟩)] w fun e w' => e = .returned (.bool (pathB (47 :: As i))) ∧ w = w' := fun w => by
            have := Path_any ((⟨#[47]⟩ : ByteArray) ++ ⟨(As i).toArray⟩) (by rw [slash_size, Hsa.out]; unfold maxLen; omega) w
            rw [slash_data] at this; exact this
          have cS : ∀ w, MaxL w → Calls Tryd.prog 13 #[.string ⟨(pp j).toArray⟩] w fun e w' => e = .returned (.bool (subB (pp j))) ∧ Below w.heap.size w w' := fun w hm => Subdomain_any _ (by rw [size_mk]; have : (pp j).length ≤ 400 := hpl; omega) w hm
          have cK : ∀ w, MaxL w → Calls Tryd.prog 19 #[.string ((⟨(pp j).toArray⟩ : ByteArray) ++ ⟨#[47, 97]⟩)] w fun e w' => e = .returned (.bool (keyB (pp j ++ [47, 97]))) ∧ Below w.heap.size w w' := fun w hm => by
            have e : (⟨(pp j).toArray⟩ : ByteArray) ++ ⟨#[47, 97]⟩ = ⟨(pp j ++ [47, 97]).toArray⟩ := Value.string.inj (cat_val (pp j) [47, 97])
            rw [e]
            exact LabelKey_any _ (by rw [size_mk, List.length_append]; have : (pp j).length ≤ 400 := hpl; simp; omega) w hm
          have hls : ((As i).length : Int) ≤ 1000 := by unfold As; rw [List.length_replicate]; omega
          rw [As_lab, show (decide (1 ≤ i) && decide (i ≤ 63)) = true by simp; omega] at cL
          rw [As_val, show decide (i ≤ 63) = true by simp; omega] at cV
          rw [As_seg, show (decide (1 ≤ i) && decide (i ≤ 253)) = true by simp; omega] at cG
          rw [As_verb, show (decide (1 ≤ i) && decide (i ≤ 32)) = false by simp; omega] at cB
          rw [As_path, show decide (i ≤ 511) = true by simp; omega] at cP
          rw [pp_sub' j (by omega)] at cS
          rw [pp_key' j (by omega)] at cK
          have g0 : (0 : Int) < i := by omega
          have g32 : decide ((i : Int) ≤ 32) = false := decide_eq_false (by omega)
          have g63 : (i : Int) ≤ 63 := by omega
          have g253 : (i : Int) ≤ 253 := by omega
          have g511 : (i : Int) ≤ 511 := by omega
          clear hrow hlt hjm c1 c2 hk6 hrow0 hbA hi hz0 hz1 hz2 Hk Hm Hsa hb1 hik
          go_wp2_with fail
          refine (cL _).mono ?_
          rintro e wk ⟨rfl, hbk⟩
          replace HM := HM.later hbk
          replace hB := chain hB hbk
          clear hbk
          go_wp2_with fail
          refine (cV _).mono ?_
          rintro e wk ⟨rfl, hbk⟩
          replace HM := HM.later hbk
          replace hB := chain hB hbk
          clear hbk
          go_wp2_with fail
          refine (cG _).mono ?_
          rintro e wk ⟨rfl, hbk⟩
          replace HM := HM.later hbk
          replace hB := chain hB hbk
          clear hbk
          go_wp2_with fail
          refine (cB _).mono ?_
          rintro e w' ⟨rfl, rfl⟩
          go_wp2_with fail
          refine (cP _).mono ?_
          rintro e w' ⟨rfl, rfl⟩
          go_wp2_with fail
          obtain kj | kj | kj : j ≤ 0 ∨ (1 ≤ j ∧ j ≤ 4) ∨ 5 ≤ j := by omega
          · rw [show (decide (0 < j) && decide (j < 5)) = false by simp; omega] at cS
            rw [show (decide (0 < j) && decide (j < 5)) = false by simp; omega] at cK
            have q0 : (j : Int) ≤ 0 := by omega
            have q5 : (j : Int) < 5 := by omega
            clear kj hm7
            refine (cS _ HM).mono ?_
            rintro e wk ⟨rfl, hbk⟩
            replace HM := HM.later hbk
            replace hB := chain hB hbk
            clear hbk
            go_wp2_with fail
            refine (cK _ HM).mono ?_
            rintro e wk ⟨rfl, hbk⟩
            replace HM := HM.later hbk
            replace hB := chain hB hbk
            clear hbk
            go_wp2
            go_ret
            exact ⟨rfl, hB⟩
          · rw [show (decide (0 < j) && decide (j < 5)) = true by simp; omega] at cS
            rw [show (decide (0 < j) && decide (j < 5)) = true by simp; omega] at cK
            have q0 : (0 : Int) < j := by omega
            have q5 : (j : Int) < 5 := by omega
            clear kj hm7
            refine (cS _ HM).mono ?_
            rintro e wk ⟨rfl, hbk⟩
            replace HM := HM.later hbk
            replace hB := chain hB hbk
            clear hbk
            go_wp2_with fail
            refine (cK _ HM).mono ?_
            rintro e wk ⟨rfl, hbk⟩
            replace HM := HM.later hbk
            replace hB := chain hB hbk
            clear hbk
            go_wp2
            go_ret
            exact ⟨rfl, hB⟩
          · rw [show (decide (0 < j) && decide (j < 5)) = false by simp; omega] at cS
            rw [show (decide (0 < j) && decide (j < 5)) = false by simp; omega] at cK
            have q0 : (0 : Int) < j := by omega
            have q5 : decide ((j : Int) < 5) = false := decide_eq_false (by omega)
            clear kj hm7
            refine (cS _ HM).mono ?_
            rintro e wk ⟨rfl, hbk⟩
            replace HM := HM.later hbk
            replace hB := chain hB hbk
            clear hbk
            go_wp2_with fail
            refine (cK _ HM).mono ?_
            rintro e wk ⟨rfl, hbk⟩
            replace HM := HM.later hbk
            replace hB := chain hB hbk
            clear hbk
            go_wp2
            go_ret
            exact ⟨rfl, hB⟩
set_option maxRecDepth 100000 in
set_option maxHeartbeats 4000000 in
theorem longlaw_c3 (n parts : Int) (k : Nat) (hk : (wrap64 (n.tmod 601 + 601)).tmod 601 = k) (c1 : 64 ≤ k) (c2 : k ≤ 253) (w : World) (hm : MaxL w) :
    Calls Tryd.prog 8 #[.int .i64 n, .int .i64 parts] w fun e w' => e = .returned (.bool true) ∧ Below w.heap.size w w' := by
  have hk6 : (k : Int) < 601 := by omega
  obtain ⟨m, hmm, hm7⟩ := wr_mod parts 8 (by omega) (by omega)
  have Hk := Lib.hid hk
  have Hm := Lib.hid hmm
  clear hk hmm
  obtain ⟨i0, hi, hz0, hz1, hz2⟩ := info_parts info_u8
  have hmk : ∀ W : World, (Instr.makeSlice 31 (.int .i64 (k : Int)) (.int .i64 (k : Int))).run Tryd.prog W = .ok (.slice (some ⟨W.heap.size, 0, none⟩) k k) (W.alloc (.cells (madeCells #[.int .u8 0] k) 5)) := fun W => by
    have := run_make (P := Tryd.prog) W 31 5 i0 (.int .u8 0) Tryd.underlying31 hi hz0 .i64 .i64 k k (by omega) (Int.le_refl _) (by rw [hz2]; omega) (by omega)
    rw [hz1, Nat.mul_one, Int.toNat_natCast] at this
    exact this
  go_enter Tryd.func8, Tryd.ntmps8
  go_wp2_with fail
  refine (awake_any _ hm).mono ?_
  rintro e w1 ⟨rfl, hb1⟩
  go_upto_region 3 with (fail)
  rw [Hk.out]
  go_wp2
  have hrow0 : (w1.alloc (.cells (madeCells #[.int .u8 0] k) 5)).ownsRow w1.heap.size 5 1 (.slice (some ⟨w1.heap.size, 0, none⟩) k k) k (u8s (fillA 0 k)) := by
    have := World.ownsRow_lit (base := w1.heap.size) (e := 5) (size := 1) w1 (madeCells #[.int .u8 0] k) k (Nat.le_refl _) (by unfold maxLen; omega) (by rw [size_madeCells, Nat.mul_one])
    rw [toList_madeCells_one] at this
    have e : u8s (fillA 0 k) = List.replicate k (.int .u8 0) := by unfold u8s fillA; simp
    rw [e]; exact this
  have hbA : Below w.heap.size w (w1.alloc (.cells (madeCells #[.int .u8 0] k) 5)) := hb1.alloc hb1.size _
  clear hmk
  go_loopw [8] (fun a wr => ∃ i : Nat, a = .int .i64 i ∧ i ≤ k ∧ wr.ownsRow w1.heap.size 5 1 (.slice (some ⟨w1.heap.size, 0, none⟩) k k) k (u8s (fillA i k)) ∧ Below w.heap.size w wr) (fun a _ => k - (intOf a).toNat)
  case atStart => exact ⟨0, rfl, by omega, hrow0, hbA⟩
  case round =>
    obtain ⟨i, rfl, hik, hrow, hB⟩ := hrel
    by_cases hlt : i < k
    · have hcell : wr.cell? ⟨w1.heap.size, i, none⟩ = some (.int .u8 0) := by
        rw [hrow.cellAt i (by omega)]
        unfold u8s fillA
        rw [List.map_append, List.getElem?_append_right (by simp), List.length_map, List.length_replicate, Nat.sub_self, List.getElem?_map, List.getElem?_replicate, if_pos (by omega)]
        rfl
      have hfr := hrow.frozenAt i
      have hst := (hrow.stored i (.int .u8 97)).1
      rw [fill_set i k hlt] at hst
      have hBs := hB.setCell (p := ⟨w1.heap.size, i, none⟩) hb1.size (.int .u8 97)
      go_wp2
      go_roundw
      case rel => exact ⟨i + 1, by go_num, by omega, hst, hBs⟩
      case measure => simp [intOf]; omega
    · obtain rfl : i = k := by omega
      have hcv : (convert 31 9 (.slice (some ⟨w1.heap.size, 0, none⟩) i i)).run Tryd.prog wr = .ok (.string ⟨(As i).toArray⟩) wr := by
        rw [conv_own hrow]
        unfold fillA
        rw [Nat.sub_self, List.replicate_zero, List.append_nil, strOf_As]
      go_upto_region 11 with (fail)
      rw [Hm.out]
      go_wp2
      have hsa : (⟨(As i).toArray⟩ : ByteArray).size = i := by rw [size_mk]; unfold As; rw [List.length_replicate]
      have Hsa := Lib.hid hsa
      clear hsa hcv
      go_loop [10, 12] (fun v a => ∃ j : Nat, a = .int .i64 j ∧ j ≤ m ∧ v = .string ⟨(pp j).toArray⟩) (fun _ a => m - (intOf a).toNat)
      case atStart => exact ⟨0, rfl, by omega, rfl⟩
      case round =>
        obtain ⟨j, rfl, hjm, rfl⟩ := hrel
        have hpl := pp_len' j (by omega)
        have hpi : ((pp j).length : Int) ≤ 400 := by omega
        have hps : ((⟨(pp j).toArray⟩ : ByteArray).size : Int) ≤ 400 := by rw [size_mk]; exact Int.ofNat_le.2 hpl
        by_cases hlt : j < m
        · by_cases h0 : 0 < j
          · have Hv := Lib.hid (show Value.string (((⟨(pp j).toArray⟩ : ByteArray) ++ ⟨#[46]⟩) ++ ⟨fifty.toArray⟩) = .string ⟨(pp (j + 1)).toArray⟩ by rw [pp, if_pos h0, ← cat_val, ← Value.string.inj (cat_val (pp j) [46])])
            go_wp2
            go_round
            case rel => exact ⟨j + 1, by go_num, by omega, Hv.out⟩
            case measure => simp [intOf]; omega
          · have Hv := Lib.hid (show Value.string ((⟨(pp j).toArray⟩ : ByteArray) ++ ⟨fifty.toArray⟩) = .string ⟨(pp (j + 1)).toArray⟩ by rw [pp, if_neg h0, cat_val])
            go_wp2
            go_round
            case rel => exact ⟨j + 1, by go_num, by omega, Hv.out⟩
            case measure => simp [intOf]; omega
        · obtain rfl : j = m := by omega
          have HM := hm.later hB
          have cL : ∀ w, Calls Tryd.prog 11 #[.string ⟨(As i).toArray⟩] w fun e w' => e = .returned (.bool (labB (As i))) ∧ Below w.heap.size w w' := fun w => Label_any _ (by rw [Hsa.out]; unfold maxLen; omega) w
          have cV : ∀ w, Calls Tryd.prog 17 #[.string ⟨(As i).toArray⟩] w fun e w' => e = .returned (.bool (valB (As i))) ∧ Below w.heap.size w w' := fun w => LabelValue_any _ (by rw [Hsa.out]; unfold maxLen; omega) w
          have cG : ∀ w, Calls Tryd.prog 15 #[.string ⟨(As i).toArray⟩] w fun e w' => e = .returned (.bool (segB (As i))) ∧ Below w.heap.size w w' := fun w => Segment_any _ (by rw [Hsa.out]; unfold maxLen; omega) w
          have cB : ∀ w, Calls Tryd.prog 21 #[.string ⟨(As i).toArray⟩] w fun e w' => e = .returned (.bool (verbB (As i))) ∧ w = w' := fun w => Verb_any _ (by rw [Hsa.out]; unfold maxLen; omega) w
          have cP : ∀ w, Calls Tryd.prog 23 #[.string ((⟨#[47]⟩ : ByteArray) ++ ⟨(As i).toArray⟩)] w fun e w' => e = .returned (.bool (pathB (47 :: As i))) ∧ w = w' := fun w => by
            have := Path_any ((⟨#[47]⟩ : ByteArray) ++ ⟨(As i).toArray⟩) (by rw [slash_size, Hsa.out]; unfold maxLen; omega) w
            rw [slash_data] at this; exact this
          have cS : ∀ w, MaxL w → Calls Tryd.prog 13 #[.string ⟨(pp j).toArray⟩] w fun e w' => e = .returned (.bool (subB (pp j))) ∧ Below w.heap.size w w' := fun w hm => Subdomain_any _ (by rw [size_mk]; have : (pp j).length ≤ 400 := hpl; omega) w hm
          have cK : ∀ w, MaxL w → Calls Tryd.prog 19 #[.string ((⟨(pp j).toArray⟩ : ByteArray) ++ ⟨#[47, 97]⟩)] w fun e w' => e = .returned (.bool (keyB (pp j ++ [47, 97]))) ∧ Below w.heap.size w w' := fun w hm => by
            have e : (⟨(pp j).toArray⟩ : ByteArray) ++ ⟨#[47, 97]⟩ = ⟨(pp j ++ [47, 97]).toArray⟩ := Value.string.inj (cat_val (pp j) [47, 97])
            rw [e]
            exact LabelKey_any _ (by rw [size_mk, List.length_append]; have : (pp j).length ≤ 400 := hpl; simp; omega) w hm
          have hls : ((As i).length : Int) ≤ 1000 := by unfold As; rw [List.length_replicate]; omega
          rw [As_lab, show (decide (1 ≤ i) && decide (i ≤ 63)) = false by simp; omega] at cL
          rw [As_val, show decide (i ≤ 63) = false by simp; omega] at cV
          rw [As_seg, show (decide (1 ≤ i) && decide (i ≤ 253)) = true by simp; omega] at cG
          rw [As_verb, show (decide (1 ≤ i) && decide (i ≤ 32)) = false by simp; omega] at cB
          rw [As_path, show decide (i ≤ 511) = true by simp; omega] at cP
          rw [pp_sub' j (by omega)] at cS
          rw [pp_key' j (by omega)] at cK
          have g0 : (0 : Int) < i := by omega
          have g32 : decide ((i : Int) ≤ 32) = false := decide_eq_false (by omega)
          have g63 : decide ((i : Int) ≤ 63) = false := decide_eq_false (by omega)
          have g253 : (i : Int) ≤ 253 := by omega
          have g511 : (i : Int) ≤ 511 := by omega
          clear hrow hlt hjm c1 c2 hk6 hrow0 hbA hi hz0 hz1 hz2 Hk Hm Hsa hb1 hik
          go_wp2_with fail
          refine (cL _).mono ?_
          rintro e wk ⟨rfl, hbk⟩
          replace HM := HM.later hbk
          replace hB := chain hB hbk
          clear hbk
          go_wp2_with fail
          refine (cV _).mono ?_
          rintro e wk ⟨rfl, hbk⟩
          replace HM := HM.later hbk
          replace hB := chain hB hbk
          clear hbk
          go_wp2_with fail
          refine (cG _).mono ?_
          rintro e wk ⟨rfl, hbk⟩
          replace HM := HM.later hbk
          replace hB := chain hB hbk
          clear hbk
          go_wp2_with fail
          refine (cB _).mono ?_
          rintro e w' ⟨rfl, rfl⟩
          go_wp2_with fail
          refine (cP _).mono ?_
          rintro e w' ⟨rfl, rfl⟩
          go_wp2_with fail
          obtain kj | kj | kj : j ≤ 0 ∨ (1 ≤ j ∧ j ≤ 4) ∨ 5 ≤ j := by omega
          · rw [show (decide (0 < j) && decide (j < 5)) = false by simp; omega] at cS
            rw [show (decide (0 < j) && decide (j < 5)) = false by simp; omega] at cK
            have q0 : (j : Int) ≤ 0 := by omega
            have q5 : (j : Int) < 5 := by omega
            clear kj hm7
            refine (cS _ HM).mono ?_
            rintro e wk ⟨rfl, hbk⟩
            replace HM := HM.later hbk
            replace hB := chain hB hbk
            clear hbk
            go_wp2_with fail
            refine (cK _ HM).mono ?_
            rintro e wk ⟨rfl, hbk⟩
            replace HM := HM.later hbk
            replace hB := chain hB hbk
            clear hbk
            go_wp2
            go_ret
            exact ⟨rfl, hB⟩
          · rw [show (decide (0 < j) && decide (j < 5)) = true by simp; omega] at cS
            rw [show (decide (0 < j) && decide (j < 5)) = true by simp; omega] at cK
            have q0 : (0 : Int) < j := by omega
            have q5 : (j : Int) < 5 := by omega
            clear kj hm7
            refine (cS _ HM).mono ?_
            rintro e wk ⟨rfl, hbk⟩
            replace HM := HM.later hbk
            replace hB := chain hB hbk
            clear hbk
            go_wp2_with fail
            refine (cK _ HM).mono ?_
            rintro e wk ⟨rfl, hbk⟩
            replace HM := HM.later hbk
            replace hB := chain hB hbk
            clear hbk
            go_wp2
            go_ret
            exact ⟨rfl, hB⟩
          · rw [show (decide (0 < j) && decide (j < 5)) = false by simp; omega] at cS
            rw [show (decide (0 < j) && decide (j < 5)) = false by simp; omega] at cK
            have q0 : (0 : Int) < j := by omega
            have q5 : decide ((j : Int) < 5) = false := decide_eq_false (by omega)
            clear kj hm7
            refine (cS _ HM).mono ?_
            rintro e wk ⟨rfl, hbk⟩
            replace HM := HM.later hbk
            replace hB := chain hB hbk
            clear hbk
            go_wp2_with fail
            refine (cK _ HM).mono ?_
            rintro e wk ⟨rfl, hbk⟩
            replace HM := HM.later hbk
            replace hB := chain hB hbk
            clear hbk
            go_wp2
            go_ret
            exact ⟨rfl, hB⟩
end Go.Proofs.YtdiighgnlckllaaDoor.nam
