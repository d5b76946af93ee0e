/- Layer 3: the contracts of the document's own seen, Verb, Segment, Path. -/
import Derived.Test.YthflpgeonllgdaaDoorNamRef
namespace Go.Proofs.YthflpgeonllgdaaDoor.nam
open Go.RowKit Go.Shelf

def notB (q : Nat → Bool) (b : Nat) : Bool := !q b
theorem madeB_same {P : Nat → Bool} {l : List UInt8} : madeB P P l = true ↔ ∀ i, i < l.length → P (l.getD i 0).toNat = true := by
  rw [madeB_iff]; exact ⟨fun h i hi => by rw [← tst_same P l i]; exact h i hi, fun h i hi => by rw [tst_same]; exact h i hi⟩
theorem madeB_but (p q : Nat → Bool) (l : List UInt8) : madeB (butB p q) (butB p q) l = (madeB p p l && madeB (notB q) (notB q) l) := by
  rw [Bool.eq_iff_iff, Bool.and_eq_true, madeB_same, madeB_same, madeB_same]
  unfold butB notB
  exact ⟨fun h => ⟨fun i hi => (Bool.and_eq_true_iff.1 (h i hi)).1, fun i hi => (Bool.and_eq_true_iff.1 (h i hi)).2⟩, fun h i hi => Bool.and_eq_true_iff.2 ⟨h.1 i hi, h.2 i hi⟩⟩
theorem tst_at (P : Nat → Bool) (s : ByteArray) (k : Nat) (h : k < s.size) : tst P P s.data.toList k = P s[k].toNat := by
  rw [tst_same, getD_data s k h]

set_option maxHeartbeats 1000000 in
theorem rseen_any (s : ByteArray) (hs : s.size ≤ maxLen) (w : World) :
    Calls Tryd.prog 59 #[.string s] w fun e w' => e = .returned (.bool (madeB seenB seenB s.data.toList)) ∧ w = w' := by
  unfold maxLen at hs
  go_enter Tryd.func59, Tryd.ntmps59
  go_wp2
  go_loop [3] (fun v => ∃ k : Nat, k ≤ s.size ∧ v = .int .i64 k ∧ Hid (∀ i, i < k → tst seenB seenB s.data.toList i = true)) (fun v => s.size - (intOf v).toNat)
  case atStart => exact ⟨0, by omega, rfl, fun i hi => by omega⟩
  case round =>
    obtain ⟨k, hk, rfl, Ha⟩ := hrel
    by_cases hlt : k < s.size
    · by_cases h1 : (s[k].toNat : Int) < 33
      · have Hn := Lib.hid (made_not seenB seenB s k hlt ((tst_at seenB s k hlt).trans (decide_eq_false (by omega))))
        go_wp2
        go_ret
        exact ⟨ret_bool Hn.out.symm, rfl⟩
      · by_cases h2 : (126 : Int) < s[k].toNat
        · have Hn := Lib.hid (made_not seenB seenB s k hlt ((tst_at seenB s k hlt).trans (decide_eq_false (by omega))))
          go_wp2
          go_ret
          exact ⟨ret_bool Hn.out.symm, rfl⟩
        · have Hn := Lib.hid (made_snoc Ha.out ((tst_at seenB s k hlt).trans (decide_eq_true (by omega))))
          go_wp2
          go_round
          case measure => simp [intOf]; omega
          case rel => exact ⟨k + 1, by omega, by go_num, Hn⟩
    · have Hn := Lib.hid (made_all seenB seenB s k hlt Ha.out)
      go_wp2
      go_ret
      exact ⟨ret_bool Hn.out.symm, rfl⟩

set_option maxHeartbeats 1000000 in
theorem rVerb_any (s : ByteArray) (hs : s.size ≤ maxLen) (w : World) :
    Calls Tryd.prog 31 #[.string s] w fun e w' => e = .returned (.bool (verbB s.data.toList)) ∧ w = w' := by
  unfold maxLen at hs
  go_enter Tryd.func31, Tryd.ntmps31
  go_wp2
  go_loop [3] (fun v => ∃ k : Nat, k ≤ s.size ∧ v = .int .i64 k ∧ Hid (∀ i, i < k → tst smallB smallB s.data.toList i = true)) (fun v => s.size - (intOf v).toNat)
  case atStart => exact ⟨0, by omega, rfl, fun i hi => by omega⟩
  case round =>
    obtain ⟨k, hk, rfl, Ha⟩ := hrel
    by_cases hlt : k < s.size
    · by_cases h1 : (s[k].toNat : Int) < 97
      · have Hn := Lib.hid (show verbB s.data.toList = false by unfold verbB; rw [made_not smallB smallB s k hlt ((tst_at smallB s k hlt).trans (decide_eq_false (by omega))), Bool.and_false])
        go_wp2
        go_ret
        exact ⟨ret_bool Hn.out.symm, rfl⟩
      · by_cases h2 : (122 : Int) < s[k].toNat
        · have Hn := Lib.hid (show verbB s.data.toList = false by unfold verbB; rw [made_not smallB smallB s k hlt ((tst_at smallB s k hlt).trans (decide_eq_false (by omega))), Bool.and_false])
          go_wp2
          go_ret
          exact ⟨ret_bool Hn.out.symm, rfl⟩
        · have Hn := Lib.hid (made_snoc Ha.out ((tst_at smallB s k hlt).trans (decide_eq_true (by omega))))
          go_wp2
          go_round
          case measure => simp [intOf]; omega
          case rel => exact ⟨k + 1, by omega, by go_num, Hn⟩
    · have Hn : Hid (verbB s.data.toList = (decide (1 ≤ s.size) && decide (s.size ≤ 32))) := by
        show _ = _; unfold verbB; rw [made_all smallB smallB s k hlt Ha.out, Bool.and_true, len_data]
      by_cases h1 : 1 ≤ s.size
      · by_cases h2 : s.size ≤ 32
        · have Hm := Lib.hid (show (decide (1 ≤ s.size) && decide (s.size ≤ 32)) = true by rw [decide_eq_true h1, decide_eq_true h2]; rfl)
          have h1' : (1 : Int) ≤ s.size := by omega
          have h2' : (s.size : Int) ≤ 32 := by omega
          go_wp2
          go_ret
          exact ⟨ret_bool (Hn.out.trans Hm.out).symm, rfl⟩
        · have Hm := Lib.hid (show (decide (1 ≤ s.size) && decide (s.size ≤ 32)) = false by rw [decide_eq_false h2, Bool.and_false])
          have h1' : (1 : Int) ≤ s.size := by omega
          have h2' : (32 : Int) < s.size := by omega
          go_wp2
          go_ret
          exact ⟨ret_bool ((decide_eq_false (by omega)).trans (Hn.out.trans Hm.out).symm), rfl⟩
      · have Hm := Lib.hid (show (decide (1 ≤ s.size) && decide (s.size ≤ 32)) = false by rw [decide_eq_false h1, Bool.false_and])
        have h1' : (s.size : Int) < 1 := by omega
        go_wp2
        go_ret
        exact ⟨ret_bool (Hn.out.trans Hm.out).symm, rfl⟩

set_option maxHeartbeats 2000000 in
theorem rSegment_any (s : ByteArray) (hs : s.size ≤ maxLen) (w : World) :
    Calls Tryd.prog 35 #[.string s] w fun e w' => e = .returned (.bool (segB s.data.toList)) ∧ w = w' := by
  have hs0 := hs
  unfold maxLen at hs
  have cs := fun w => rseen_any s hs0 w
  have Hb : Hid (segB s.data.toList = ((((decide (1 ≤ s.size) && decide (s.size ≤ 253)) && (madeB seenB seenB s.data.toList && madeB (notB partB) (notB partB) s.data.toList)) && !(s.data.toList == [46])) && !(s.data.toList == [46, 46]))) := by
    show _ = _; unfold segB; rw [madeB_but, len_data]
  go_enter Tryd.func35, Tryd.ntmps35
  go_wp2
  go_loop [3] (fun v => ∃ k : Nat, k ≤ s.size ∧ v = .int .i64 k ∧ Hid (∀ i, i < k → tst (notB partB) (notB partB) s.data.toList i = true)) (fun v => s.size - (intOf v).toNat)
  case atStart => exact ⟨0, by omega, rfl, fun i hi => by omega⟩
  case round =>
    obtain ⟨k, hk, rfl, Ha⟩ := hrel
    by_cases hlt : k < s.size
    · by_cases h1 : s[k].toNat = 47
      · have Hn := Lib.hid (show segB s.data.toList = false by rw [Hb.out, made_not (notB partB) (notB partB) s k hlt ((tst_at (notB partB) s k hlt).trans (by unfold notB partB; rw [h1]; rfl))]; simp)
        have e1 : ((s[k].toNat : Int) == 47) = true := beq_iff_eq.2 (by omega)
        clear h1
        go_wp2
        go_ret
        exact ⟨ret_bool Hn.out.symm, rfl⟩
      · have e1 : ((s[k].toNat : Int) == 47) = false := beq_eq_false_iff_ne.2 (by omega)
        by_cases h2 : s[k].toNat = 37
        · have Hn := Lib.hid (show segB s.data.toList = false by rw [Hb.out, made_not (notB partB) (notB partB) s k hlt ((tst_at (notB partB) s k hlt).trans (by unfold notB partB; rw [h2]; rfl))]; simp)
          have e2 : ((s[k].toNat : Int) == 37) = true := beq_iff_eq.2 (by omega)
          clear h1 h2
          go_wp2
          go_ret
          exact ⟨ret_bool Hn.out.symm, rfl⟩
        · have Hn := Lib.hid (made_snoc Ha.out ((tst_at (notB partB) s k hlt).trans (by unfold notB partB; rw [decide_eq_false (by omega)]; rfl)))
          have e2 : ((s[k].toNat : Int) == 37) = false := beq_eq_false_iff_ne.2 (by omega)
          clear h1 h2
          go_wp2
          go_round
          case measure => simp [intOf]; omega
          case rel => exact ⟨k + 1, by omega, by go_num, Hn⟩
    · have hall := made_all (notB partB) (notB partB) s k hlt Ha.out
      cases hse : madeB seenB seenB s.data.toList with
      | false =>
        have Hn := Lib.hid (show segB s.data.toList = false by rw [Hb.out, hse]; simp)
        rw [hse] at cs
        clear hse hall
        go_wp2_with fail
        refine (cs _).mono ?_
        rintro e w' ⟨rfl, rfl⟩
        go_wp2
        go_ret
        exact ⟨ret_bool Hn.out.symm, rfl⟩
      | true =>
        have Hn := Lib.hid (show segB s.data.toList = (((decide (1 ≤ s.size) && decide (s.size ≤ 253)) && !(s.data.toList == [46])) && !(s.data.toList == [46, 46])) by rw [Hb.out, hse, hall]; simp)
        rw [hse] at cs
        clear hse hall
        by_cases h1 : 1 ≤ s.size
        · by_cases h2 : s.size ≤ 253
          · by_cases h3 : s.data.toList = [46]
            · have Hm := Lib.hid (show segB s.data.toList = false by rw [Hn.out, h3]; simp)
              have hk1 : (1 : Int) ≤ k := by have hz := len_data s; rw [h3] at hz; simp at hz; omega
              have hs1 : s = ⟨#[46]⟩ := ByteArray.ext (Array.toList_inj.1 h3)
              subst hs1
              clear h3
              go_wp2_with fail
              refine (cs _).mono ?_
              rintro e w' ⟨rfl, rfl⟩
              go_wp2
              go_ret
              exact ⟨ret_bool Hm.out.symm, rfl⟩
            · by_cases h4 : s.data.toList = [46, 46]
              · have Hm := Lib.hid (show segB s.data.toList = false by rw [Hn.out, h4]; simp)
                have hk1 : (2 : Int) ≤ k := by have hz := len_data s; rw [h4] at hz; simp at hz; omega
                have hs1 : s = ⟨#[46, 46]⟩ := ByteArray.ext (Array.toList_inj.1 h4)
                subst hs1
                clear h3 h4
                go_wp2_with fail
                refine (cs _).mono ?_
                rintro e w' ⟨rfl, rfl⟩
                go_wp2
                go_ret
                exact ⟨ret_bool Hm.out.symm, rfl⟩
              · have Hm := Lib.hid (show segB s.data.toList = true by rw [Hn.out]; simp [h1, h2, h3, h4])
                have e1 : (s.toList == [46]) = false := by rw [ByteArray.toList_eq]; exact beq_eq_false_iff_ne.2 h3
                have e2 : (s.toList == [46, 46]) = false := by rw [ByteArray.toList_eq]; exact beq_eq_false_iff_ne.2 h4
                have h1' : (1 : Int) ≤ s.size := by omega
                have h2' : (s.size : Int) ≤ 253 := by omega
                clear h3 h4
                go_wp2_with fail
                refine (cs _).mono ?_
                rintro e w' ⟨rfl, rfl⟩
                go_wp2
                go_ret
                exact ⟨ret_bool Hm.out.symm, rfl⟩
          · have Hm := Lib.hid (show segB s.data.toList = false by rw [Hn.out, decide_eq_false h2]; simp)
            have h1' : (1 : Int) ≤ s.size := by omega
            have h2' : (253 : Int) < s.size := by omega
            go_wp2_with fail
            refine (cs _).mono ?_
            rintro e w' ⟨rfl, rfl⟩
            go_wp2
            go_ret
            exact ⟨ret_bool Hm.out.symm, rfl⟩
        · have Hm := Lib.hid (show segB s.data.toList = false by rw [Hn.out, decide_eq_false h1]; simp)
          have h1' : (s.size : Int) < 1 := by omega
          go_wp2_with fail
          refine (cs _).mono ?_
          rintro e w' ⟨rfl, rfl⟩
          go_wp2
          go_ret
          exact ⟨ret_bool Hm.out.symm, rfl⟩

theorem prefix_head (s : ByteArray) (h : 1 ≤ s.size) : Lib.hasPrefix s.data.toList [47] = decide (s[0].toNat = 47) := by
  have hl := len_data s
  cases e : s.data.toList with
  | nil => rw [e] at hl; simp at hl; omega
  | cons a l =>
    have h0 : s[0] = a := by
      have := getD_data s 0 (by omega)
      rw [e] at this; exact this.symm
    rw [h0]
    unfold Lib.hasPrefix
    simp only [List.isPrefixOf, Bool.and_true]
    rw [Bool.eq_iff_iff, beq_iff_eq, decide_eq_true_iff]
    exact ⟨fun e => by rw [← e]; rfl, fun e => UInt8.toNat_inj.1 (by rw [e]; rfl)⟩
set_option maxHeartbeats 1000000 in
theorem rPath_any (s : ByteArray) (hs : s.size ≤ maxLen) (w : World) :
    Calls Tryd.prog 42 #[.string s] w fun e w' => e = .returned (.bool (pathB s.data.toList)) ∧ w = w' := by
  have hs0 := hs
  unfold maxLen at hs
  have cs := fun w => rseen_any s hs0 w
  cases hse : madeB seenB seenB s.data.toList with
  | false =>
    have Hn := Lib.hid (show pathB s.data.toList = false by unfold pathB; rw [hse, Bool.and_false])
    rw [hse] at cs
    clear hse
    go_enter Tryd.func42, Tryd.ntmps42
    go_wp2_with fail
    refine (cs _).mono ?_
    rintro e w' ⟨rfl, rfl⟩
    go_wp2
    go_ret
    exact ⟨ret_bool Hn.out.symm, rfl⟩
  | true =>
    have Hn := Lib.hid (show pathB s.data.toList = ((decide (1 ≤ s.size) && decide (s.size ≤ 512)) && Lib.hasPrefix s.data.toList [47]) by unfold pathB; rw [hse, Bool.and_true, len_data])
    rw [hse] at cs
    clear hse
    by_cases h1 : 1 ≤ s.size
    · by_cases h2 : s.size ≤ 512
      · have hp := prefix_head s h1
        have h0 : 0 < s.size := by omega
        by_cases h3 : s[0].toNat = 47
        · have Hm := Lib.hid (show pathB s.data.toList = true by rw [Hn.out, hp, decide_eq_true h1, decide_eq_true h2, decide_eq_true h3]; rfl)
          have h1' : (1 : Int) ≤ s.size := by omega
          have h2' : (s.size : Int) ≤ 512 := by omega
          have e1 : ((s[0].toNat : Int) == 47) = true := beq_iff_eq.2 (by omega)
          clear h3 hp
          go_enter Tryd.func42, Tryd.ntmps42
          go_wp2_with fail
          refine (cs _).mono ?_
          rintro e w' ⟨rfl, rfl⟩
          go_wp2
          go_ret
          exact ⟨ret_bool Hm.out.symm, rfl⟩
        · have Hm := Lib.hid (show pathB s.data.toList = false by rw [Hn.out, hp, decide_eq_false h3, Bool.and_false])
          have h1' : (1 : Int) ≤ s.size := by omega
          have h2' : (s.size : Int) ≤ 512 := by omega
          have e1 : ((s[0].toNat : Int) == 47) = false := beq_eq_false_iff_ne.2 (by omega)
          clear h3 hp
          go_enter Tryd.func42, Tryd.ntmps42
          go_wp2_with fail
          refine (cs _).mono ?_
          rintro e w' ⟨rfl, rfl⟩
          go_wp2
          go_ret
          exact ⟨ret_bool Hm.out.symm, rfl⟩
      · have Hm := Lib.hid (show pathB s.data.toList = false by rw [Hn.out, decide_eq_false h2]; simp)
        have h1' : (1 : Int) ≤ s.size := by omega
        have h2' : (512 : Int) < s.size := by omega
        go_enter Tryd.func42, Tryd.ntmps42
        go_wp2_with fail
        refine (cs _).mono ?_
        rintro e w' ⟨rfl, rfl⟩
        go_wp2
        go_ret
        exact ⟨ret_bool Hm.out.symm, rfl⟩
    · have Hm := Lib.hid (show pathB s.data.toList = false by rw [Hn.out, decide_eq_false h1]; simp)
      have h1' : (s.size : Int) < 1 := by omega
      go_enter Tryd.func42, Tryd.ntmps42
      go_wp2_with fail
      refine (cs _).mono ?_
      rintro e w' ⟨rfl, rfl⟩
      go_wp2
      go_ret
      exact ⟨ret_bool Hm.out.symm, rfl⟩
end Go.Proofs.YthflpgeonllgdaaDoor.nam
