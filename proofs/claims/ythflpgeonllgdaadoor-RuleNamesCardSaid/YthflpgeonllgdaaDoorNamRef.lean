/- Layer 3: the contracts of the document's own functions: small, anyOf, Label, seen, Segment, LabelValue, Verb, Path. -/
import Derived.Test.YthflpgeonllgdaaDoorNamSub
namespace Go.Proofs.YthflpgeonllgdaaDoor.nam
open Go.RowKit Go.Shelf

theorem rsmall_any (b : Nat) (_hb : b < 256) (w : World) : Calls Tryd.prog 72 #[.int .u8 b] w fun e w' => e = .returned (.bool (edgeL b)) ∧ w = w' := by
  by_cases a0 : (97 : Int) ≤ b
  · by_cases c0 : (b : Int) ≤ 122
    · have H := Lib.hid (show edgeL b = true by unfold edgeL orB smallB digitB; simp; omega)
      go_enter Tryd.func72, Tryd.ntmps72
      go_wp2
      go_ret
      exact ⟨ret_bool H.out.symm, rfl⟩
    · skip
      by_cases a1 : (48 : Int) ≤ b
      · by_cases c1 : (b : Int) ≤ 57
        · have H := Lib.hid (show edgeL b = true by unfold edgeL orB smallB digitB; simp; omega)
          go_enter Tryd.func72, Tryd.ntmps72
          go_wp2
          go_ret
          exact ⟨ret_bool H.out.symm, rfl⟩
        · skip
          have H := Lib.hid (show edgeL b = false by unfold edgeL orB smallB digitB; simp; omega)
          go_enter Tryd.func72, Tryd.ntmps72
          go_wp2
          go_ret
          exact ⟨ret_bool H.out.symm, rfl⟩
      · skip
        have H := Lib.hid (show edgeL b = false by unfold edgeL orB smallB digitB; simp; omega)
        go_enter Tryd.func72, Tryd.ntmps72
        go_wp2
        go_ret
        exact ⟨ret_bool H.out.symm, rfl⟩
  · skip
    by_cases a1 : (48 : Int) ≤ b
    · by_cases c1 : (b : Int) ≤ 57
      · have H := Lib.hid (show edgeL b = true by unfold edgeL orB smallB digitB; simp; omega)
        go_enter Tryd.func72, Tryd.ntmps72
        go_wp2
        go_ret
        exact ⟨ret_bool H.out.symm, rfl⟩
      · skip
        have H := Lib.hid (show edgeL b = false by unfold edgeL orB smallB digitB; simp; omega)
        go_enter Tryd.func72, Tryd.ntmps72
        go_wp2
        go_ret
        exact ⟨ret_bool H.out.symm, rfl⟩
    · skip
      have H := Lib.hid (show edgeL b = false by unfold edgeL orB smallB digitB; simp; omega)
      go_enter Tryd.func72, Tryd.ntmps72
      go_wp2
      go_ret
      exact ⟨ret_bool H.out.symm, rfl⟩
set_option maxHeartbeats 2000000 in
theorem rLabel_any (s : ByteArray) (hs : s.size ≤ maxLen) (w : World) :
    Calls Tryd.prog 43 #[.string s] w fun e w' => e = .returned (.bool (labB s.data.toList)) ∧ w = w' := by
  unfold maxLen at hs
  by_cases h0 : s.size < 1
  · have H := Lib.hid (show labB s.data.toList = false by unfold labB; rw [len_data, decide_eq_false (by omega : ¬ 1 ≤ s.size)]; rfl)
    have h0' : (s.size : Int) < 1 := by omega
    clear h0
    go_enter Tryd.func43, Tryd.ntmps43
    go_wp2
    go_ret
    exact ⟨ret_bool H.out.symm, rfl⟩
  by_cases h63 : 63 < s.size
  · have H := Lib.hid (show labB s.data.toList = false by unfold labB; rw [len_data, decide_eq_false (by omega : ¬ s.size ≤ 63), Bool.and_false]; rfl)
    have h63' : (63 : Int) < s.size := by omega
    clear h63
    go_enter Tryd.func43, Tryd.ntmps43
    go_wp2
    go_ret
    exact ⟨ret_bool H.out.symm, rfl⟩
  have Hb : Hid (labB s.data.toList = madeB edgeL (orB edgeL dashB) s.data.toList) := by show _ = _; unfold labB; rw [len_data, decide_eq_true (by omega : 1 ≤ s.size), decide_eq_true (by omega : s.size ≤ 63)]; rfl
  go_enter Tryd.func43, Tryd.ntmps43
  go_wp2
  go_loop [3] (fun v => ∃ k : Nat, k ≤ s.size ∧ v = .int .i64 k ∧ Hid (∀ i, i < k → tst edgeL (orB edgeL dashB) s.data.toList i = true)) (fun v => s.size - (intOf v).toNat)
  case atStart => exact ⟨0, by omega, rfl, fun i hi => by omega⟩
  case round =>
    obtain ⟨k, hk, rfl, Ha⟩ := hrel
    by_cases hlt : k < s.size
    · have hbb := toNat_lt s[k]
      have cp := fun w => rsmall_any s[k].toNat hbb w
      cases hE : edgeL s[k].toNat with
      | true =>
        have ht : tst edgeL (orB edgeL dashB) s.data.toList k = true := by
          by_cases hed : k = 0 ∨ k + 1 = s.size
          · rw [tst_edge _ _ s k hlt hed, hE]
          · rw [tst_inner _ _ s k hlt hed]; unfold orB; first | (rw [hE]; rfl) | (unfold edgeL at hE; rw [hE]; rfl)
        have Hn := Lib.hid (made_snoc Ha.out ht)
        rw [hE] at cp
        clear hE ht
        by_cases h0 : k = 0
        · have e0 : ((k : Int) == 0) = true := beq_iff_eq.2 (by omega)
          clear h0
          go_wp2_with fail
          refine (cp _).mono ?_
          rintro e w' ⟨rfl, rfl⟩
          go_wp2
          go_round
          case measure => simp [intOf]; omega
          case rel => exact ⟨k + 1, by omega, by go_num, Hn⟩
        · have e0 : ((k : Int) == 0) = false := beq_eq_false_iff_ne.2 (by omega)
          clear h0
          go_wp2_with fail
          refine (cp _).mono ?_
          rintro e w' ⟨rfl, rfl⟩
          go_wp2
          go_round
          case measure => simp [intOf]; omega
          case rel => exact ⟨k + 1, by omega, by go_num, Hn⟩
      | false =>
        rw [hE] at cp
        by_cases hed : k = 0 ∨ k + 1 = s.size
        · have Hn := Lib.hid (made_not edgeL (orB edgeL dashB) s k hlt ((tst_edge _ _ s k hlt hed).trans hE))
          clear hE
          by_cases h0 : k = 0
          · have e0 : ((k : Int) == 0) = true := beq_iff_eq.2 (by omega)
            clear h0 hed
            go_wp2_with fail
            refine (cp _).mono ?_
            rintro e w' ⟨rfl, rfl⟩
            go_wp2
            go_ret
            exact ⟨ret_bool (Hb.out.trans Hn.out).symm, rfl⟩
          · have e0 : ((k : Int) == 0) = false := beq_eq_false_iff_ne.2 (by omega)
            have e1 : ((k : Int) == (s.size : Int) - 1) = true := beq_iff_eq.2 (by omega)
            clear h0 hed
            go_wp2_with fail
            refine (cp _).mono ?_
            rintro e w' ⟨rfl, rfl⟩
            go_wp2
            go_ret
            exact ⟨ret_bool (Hb.out.trans Hn.out).symm, rfl⟩
        · have e0 : ((k : Int) == 0) = false := beq_eq_false_iff_ne.2 (by omega)
          have e1 : ((k : Int) == (s.size : Int) - 1) = false := beq_eq_false_iff_ne.2 (by omega)
          have hin := tst_inner edgeL (orB edgeL dashB) s k hlt hed
          clear hed
          by_cases j0 : s[k].toNat = 45
          · have Hn := Lib.hid (made_snoc Ha.out (hin.trans (show (orB edgeL dashB) s[k].toNat = true by unfold orB dashB; rw [j0]; simp)))
            clear hE hin
            have d0 : ((s[k].toNat : Int) == 45) = true := beq_iff_eq.2 (by omega)
            have n0 : ((s[k].toNat : Int) != 45) = false := by unfold bne; rw [d0]; rfl
            clear j0
            go_wp2_with fail
            refine (cp _).mono ?_
            rintro e w' ⟨rfl, rfl⟩
            go_wp2
            go_round
            case measure => simp [intOf]; omega
            case rel => exact ⟨k + 1, by omega, by go_num, Hn⟩
          · skip
            have Hn := Lib.hid (made_not edgeL (orB edgeL dashB) s k hlt (hin.trans (by unfold orB; rw [hE, Bool.false_or]; exact decide_eq_false (by omega))))
            clear hE hin
            have d0 : ((s[k].toNat : Int) == 45) = false := beq_eq_false_iff_ne.2 (by omega)
            have n0 : ((s[k].toNat : Int) != 45) = true := bne_iff_ne.2 (by omega)
            clear j0
            go_wp2_with fail
            refine (cp _).mono ?_
            rintro e w' ⟨rfl, rfl⟩
            go_wp2
            go_ret
            exact ⟨ret_bool (Hb.out.trans Hn.out).symm, rfl⟩
    · have Hn := Lib.hid (made_all edgeL (orB edgeL dashB) s k hlt Ha.out)
      go_wp2
      go_ret
      exact ⟨ret_bool (Hb.out.trans Hn.out).symm, rfl⟩

end Go.Proofs.YthflpgeonllgdaaDoor.nam
