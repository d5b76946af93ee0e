/- Layer 2: read (the digits ahead, their number, whether it is over) and Parse. -/
import Derived.Test.YthnafenkpcnlbaaDigLeaf
import Derived.Deep.LoopGhost
namespace Go.Proofs.Ythnafenkpcnlbaa.dig
open Go.RowKit

/-- How many digits are ahead. -/
def pre (l : List UInt8) : List UInt8 := l.takeWhile isD
def over64 (l : List UInt8) : Bool := decide (18446744073709551616 ≤ val l)
def size64 (l : List UInt8) : Nat := if over64 l then 0 else val l
theorem size64_le (l : List UInt8) : size64 l ≤ 18446744073709551615 := by
  unfold size64 over64
  split
  · omega
  · rename_i h; simp at h; omega
theorem size64_over {l : List UInt8} (h : over64 l = true) : size64 l = 0 := if_pos h
theorem size64_fits {l : List UInt8} (h : over64 l = false) : size64 l = val l := by unfold size64; rw [h]; rfl

theorem take_snoc (s : ByteArray) (k : Nat) (h : k < s.size) : s.data.toList.take (k + 1) = s.data.toList.take k ++ [s[k]] := by
  rw [List.take_succ_eq_append_getElem (by simpa using h)]; rfl
theorem pre_stop (s : ByteArray) (k : Nat) (h : k < s.size) (ha : (s.data.toList.take k).all isD = true) (hn : isD s[k] = false) : pre s.data.toList = s.data.toList.take k := by
  unfold pre
  have e : s.data.toList = s.data.toList.take k ++ s[k] :: s.data.toList.drop (k + 1) := by
    conv => lhs; rw [← List.take_append_drop (k + 1) s.data.toList, take_snoc s k h]
    simp
  conv => lhs; rw [e]
  rw [List.takeWhile_append_of_pos (by simpa using ha), List.takeWhile_cons_of_neg (by simp [hn]), List.append_nil]
theorem pre_end (s : ByteArray) (k : Nat) (h : ¬ k < s.size) (ha : (s.data.toList.take k).all isD = true) : pre s.data.toList = s.data.toList.take k := by
  have hl : s.data.toList.length = s.size := Array.length_toList
  have e : s.data.toList.take k = s.data.toList := List.take_of_length_le (by omega)
  rw [e] at ha ⊢
  unfold pre
  have := List.takeWhile_append_of_pos (l₁ := s.data.toList) (l₂ := []) (p := isD) (List.all_eq_true.1 ha)
  simpa using this
theorem all_snoc (s : ByteArray) (k : Nat) (h : k < s.size) (ha : (s.data.toList.take k).all isD = true) (hd : isD s[k] = true) : (s.data.toList.take (k + 1)).all isD = true := by
  rw [take_snoc s k h, List.all_append, ha]; simp [hd]
theorem len_take (s : ByteArray) (k : Nat) (h : k ≤ s.size) : (s.data.toList.take k).length = k := by
  rw [List.length_take, Array.length_toList]; exact Nat.min_eq_left h
theorem over_snoc {l : List UInt8} {c : UInt8} (h : over64 l = true) : over64 (l ++ [c]) = true := by
  unfold over64 at *
  have h := of_decide_eq_true h
  rw [decide_eq_true_eq]; rw [val_snoc]; omega
theorem dval_int {c : UInt8} (h : isD c = true) : ((dval c : Nat) : Int) = (c.toNat : Int) - 48 := by
  rw [isD_iff] at h; unfold dval; omega
theorem isD_not (c : UInt8) (h : isD c = false) : c.toNat < 48 ∨ 57 < c.toNat := by
  unfold isD at h; have := of_decide_eq_false h; omega

theorem ret3 {k j : IntKind} {a b c d : Int} {x y : Bool} (h : a = b) (h' : c = d) (h'' : x = y) : Ending.returned (.tuple #[.int k a, .int j c, .bool x]) = .returned (.tuple #[.int k b, .int j d, .bool y]) := by rw [h, h', h'']
set_option maxHeartbeats 1000000 in
theorem read_any (s : ByteArray) (hs : s.size ≤ maxLen) (w : World) :
    Calls Try.prog 27 #[.string s] w fun e w' => e = .returned (.tuple #[.int .u64 (size64 (pre s.data.toList) : Nat), .int .i64 ((pre s.data.toList).length : Nat), .bool (over64 (pre s.data.toList))]) ∧ w = w' := by
  unfold maxLen at hs
  go_enter Try.func27, Try.ntmps27
  go_wp2
  go_step3
  go_wp2
  go_step3
  go_wp2
  go_loop [2, 3, 4] (fun v2 v3 v4 => ∃ k : Nat, k ≤ s.size ∧ v3 = .int .i64 k ∧ v2 = .int .u64 (size64 (s.data.toList.take k) : Nat) ∧ v4 = .bool (over64 (s.data.toList.take k)) ∧ Hid ((s.data.toList.take k).all isD = true)) (fun _ v _ => s.size - (intOf v).toNat)
  case atStart => exact ⟨0, by omega, rfl, rfl, rfl, rfl⟩
  case round =>
    obtain ⟨k, hk, rfl, rfl, rfl, Ha⟩ := hrel
    by_cases hlt : k < s.size
    · cases hd : isD s[k] with
      | false =>
        have Hp := Lib.hid (pre_stop s k hlt Ha.out hd)
        have Hl := Lib.hid (len_take s k hk)
        rcases isD_not _ hd with h | h
        · clear hd
          have h' : (s[k].toNat : Int) < 48 := by omega
          go_wp2
          go_ret3
          exact ⟨ret3 (by rw [Hp.out]) (by rw [Hp.out, Hl.out]) (by rw [Hp.out]), rfl⟩
        · clear hd
          have h' : 57 < (s[k].toNat : Int) := by omega
          have h'' : ¬ (s[k].toNat : Int) < 48 := by omega
          go_wp2
          go_ret3
          exact ⟨ret3 (by rw [Hp.out]) (by rw [Hp.out, Hl.out]) (by rw [Hp.out]), rfl⟩
      | true =>
        have Hn := Lib.hid (all_snoc s k hlt Ha.out hd)
        have hcs := (isD_iff _).1 hd
        have h1 : (48 : Int) ≤ (s[k].toNat : Int) := by omega
        have h2 : (s[k].toNat : Int) ≤ 57 := by omega
        have Hdv := Lib.hid (dval_int hd)
        have Ht := Lib.hid (take_snoc s k hlt)
        have hsz := size64_le (s.data.toList.take k)
        clear hd hcs
        cases ho : over64 (s.data.toList.take k) with
        | true =>
          have Ho := Lib.hid ho
          have Hz := Lib.hid (size64_over ho)
          clear ho
          go_wp2
          go_round
          case measure => simp [intOf]; omega
          case rel => exact ⟨k + 1, by omega, by go_num, by rw [Ht.out, size64_over (over_snoc Ho.out), Hz.out], by rw [Ht.out, over_snoc Ho.out], Hn⟩
        | false =>
          have Ho := Lib.hid ho
          have Hz := Lib.hid (size64_fits ho)
          clear ho
          generalize hm : size64 (s.data.toList.take k) = m at hsz Hz
          have Hm := Lib.hid hm
          clear hm
          have Hval := Lib.hid (val_snoc (s.data.toList.take k) s[k])
          by_cases hov : 18446744073709551615 < (m : Int) * 10 + ((s[k].toNat : Int) - 48)
          · have Hover := Lib.hid (show over64 (s.data.toList.take (k + 1)) = true from decide_eq_true (by
              have e1 := Hval.out
              have e2 := Hdv.out
              have e3 := Hz.out
              rw [← Ht.out] at e1
              omega))
            go_wp2_with fail
            refine (behind_over _ _ (by omega) (by omega) hov _).mono ?_
            rintro e w' ⟨rfl, rfl⟩
            go_wp2
            go_round
            case measure => simp [intOf]; omega
            case rel => exact ⟨k + 1, by omega, by go_num, by rw [size64_over Hover.out]; rfl, by rw [Hover.out], Hn⟩
          · have hov' : (m : Int) * 10 + ((s[k].toNat : Int) - 48) ≤ 18446744073709551615 := by omega
            have Hval2 := Lib.hid (show ((val (s.data.toList.take (k + 1)) : Nat) : Int) = (m : Int) * 10 + ((s[k].toNat : Int) - 48) from by
              have e1 := Hval.out
              have e2 := Hdv.out
              have e3 := Hz.out
              rw [← Ht.out] at e1
              omega)
            have Hover := Lib.hid (show over64 (s.data.toList.take (k + 1)) = false from decide_eq_false (by have := Hval2.out; omega))
            clear hov
            go_wp2_with fail
            refine (behind_fits _ _ (by omega) (by omega) hov' _).mono ?_
            rintro e w' ⟨rfl, rfl⟩
            go_wp2
            go_round
            case measure => simp [intOf]; omega
            case rel => exact ⟨k + 1, by omega, by go_num, by rw [size64_fits Hover.out, Hval2.out], by rw [Hover.out], Hn⟩
    · have Hp := Lib.hid (pre_end s k hlt Ha.out)
      have Hl := Lib.hid (len_take s k hk)
      go_wp2
      go_ret3
      exact ⟨ret3 (by rw [Hp.out]) (by rw [Hp.out, Hl.out]) (by rw [Hp.out]), rfl⟩

theorem hasPrefix_minus (l : List UInt8) : Lib.hasPrefix l [45] = hasM l := by
  unfold Lib.hasPrefix hasM
  cases l with
  | nil => rfl
  | cons c l =>
    rw [Bool.eq_iff_iff]
    simp only [List.isPrefixOf, Bool.and_true, List.head?_cons, beq_iff_eq, Option.some.injEq]
    exact eq_comm
theorem trimPrefix_minus (l : List UInt8) : Lib.trimPrefix l [45] = behindM l := by
  unfold Lib.trimPrefix behindM
  rw [hasPrefix_minus]
  simp

theorem pre_all {t : List UInt8} (h : (pre t).length = t.length) : pre t = t ∧ t.all isD = true := by
  have hp : pre t <+: t := List.takeWhile_prefix isD
  have e := hp.eq_of_length h
  refine ⟨e, ?_⟩
  rw [← e]
  exact List.all_takeWhile
theorem pre_of_all {t : List UInt8} (h : t.all isD = true) : pre t = t := by
  have := List.takeWhile_append_of_pos (l₁ := t) (l₂ := []) (p := isD) (List.all_eq_true.1 h)
  unfold pre
  simpa using this
theorem form_no {l : List UInt8} (h : formB (hasM l) (behindM l) = false) : pV l = 0 ∧ pE l = 10 := by
  unfold pV pE; rw [h]; exact ⟨rfl, rfl⟩
theorem form_yes {l : List UInt8} (h : formB (hasM l) (behindM l) = true) : pV l = tV (sgn (hasM l) (val (behindM l))) ∧ pE l = tE (sgn (hasM l) (val (behindM l))) := by
  unfold pV pE numOf; rw [h]; exact ⟨rfl, rfl⟩
theorem form_false {m : Bool} {t : List UInt8} (h : ¬ (t ≠ [] ∧ t.all isD = true ∧ (t.head? = some 48 → m = false ∧ t.length ≤ 1))) : formB m t = false := by
  cases e : formB m t
  · rfl
  · exact absurd ((form_split m t).1 e) h
/-- Read has not come to the end, or read nothing: no number's text. -/
theorem short_no {l : List UInt8} {T : ByteArray} (hT : T.data.toList = behindM l) (h : (pre T.data.toList).length = 0 ∨ (pre T.data.toList).length < T.size) : pV l = 0 ∧ pE l = 10 := by
  refine form_no (form_false ?_)
  rw [← hT]
  rintro ⟨a, b, _⟩
  rw [pre_of_all b] at h
  have hl : T.data.toList.length = T.size := Array.length_toList
  rcases h with h | h
  · exact a (List.length_eq_zero_iff.1 h)
  · omega
theorem head_of (T : ByteArray) (h : 0 < T.size) : T.data.toList.head? = some T[0] := by
  rw [List.head?_eq_getElem?, List.getElem?_eq_getElem (by rw [Array.length_toList]; exact h)]; rfl
theorem lead_no {l : List UInt8} {T : ByteArray} (hT : T.data.toList = behindM l) (h0 : 0 < T.size) (hz : T[0] = 48) (h : hasM l = true ∨ 1 < T.size) : pV l = 0 ∧ pE l = 10 := by
  refine form_no (form_false ?_)
  rw [← hT]
  rintro ⟨_, _, c⟩
  have := c (by rw [head_of T h0, hz])
  have hl : T.data.toList.length = T.size := Array.length_toList
  rcases h with h | h
  · rw [h] at this; exact absurd this.1 (by simp)
  · omega
theorem lead_yes {l : List UInt8} {T : ByteArray} (hT : T.data.toList = behindM l) (h0 : 0 < T.size) (hp : (pre T.data.toList).length = T.size) (h : T[0] = 48 → hasM l = false ∧ T.size ≤ 1) :
    pre T.data.toList = T.data.toList ∧ pV l = tV (sgn (hasM l) (val T.data.toList)) ∧ pE l = tE (sgn (hasM l) (val T.data.toList)) := by
  have hl : T.data.toList.length = T.size := Array.length_toList
  obtain ⟨e, ha⟩ := pre_all (hp.trans hl.symm)
  refine ⟨e, ?_⟩
  rw [hT]
  apply form_yes
  rw [form_split, ← hT]
  refine ⟨?_, ha, ?_⟩
  · intro hn; rw [hn] at hl; simp at hl; omega
  · intro hh
    rw [head_of T h0] at hh
    have := h (by simpa using hh)
    exact ⟨this.1, by omega⟩
theorem over_no {m : Bool} {t : List UInt8} (h : over64 t = true) : tV (sgn m (val t)) = 0 ∧ tE (sgn m (val t)) = 16 := by
  have h := of_decide_eq_true h
  have hi : ¬ inI (sgn m (val t)) := by
    unfold sgn inI; cases m <;> simp only [cond_false, cond_true] <;> omega
  exact ⟨tV_out hi, tE_out hi⟩

set_option maxHeartbeats 1000000 in
theorem Parse_any (s : ByteArray) (hs : s.size ≤ maxLen) (w : World) :
    Calls Try.prog 11 #[.string s] w fun e w' => e = .returned (.tuple #[.int .i64 (pV s.data.toList), .int .i64 (pE s.data.toList)]) ∧ w = w' := by
  obtain ⟨T, hT⟩ : ∃ T : ByteArray, T = ⟨(behindM s.data.toList).toArray⟩ := ⟨_, rfl⟩
  have hT2 : T.data.toList = behindM s.data.toList := by rw [hT]
  have hTs : T.size ≤ s.size := by
    have h1 : T.data.toList.length = T.size := Array.length_toList
    have h2 : s.data.toList.length = s.size := Array.length_toList
    rw [hT2] at h1
    rw [← h1, ← h2]
    unfold behindM; split
    · rw [List.length_tail]; omega
    · omega
  have hTm : T.size ≤ maxLen := Nat.le_trans hTs hs
  have hb := hTm
  unfold maxLen at hb hs
  have HT := Lib.hid hT
  have HT2 := Lib.hid hT2
  clear hT hT2
  have hpl : (pre T.data.toList).length ≤ T.size := by
    have h := (List.takeWhile_prefix isD (l := T.data.toList)).length_le
    have h1 : T.data.toList.length = T.size := Array.length_toList
    unfold pre; omega
  have hsz := size64_le (pre T.data.toList)
  generalize hm : hasM s.data.toList = m
  have Hm := Lib.hid hm
  clear hm
  go_enter Try.func11, Try.ntmps11
  go_wp2_with fail
  refine (cutPrefix_any _ _ _).mono ?_
  rintro e w' ⟨rfl, rfl⟩
  rw [hasPrefix_minus, trimPrefix_minus, ← HT.out, Hm.out]
  go_wp2_with fail
  refine (read_any T hTm _).mono ?_
  rintro e w' ⟨rfl, rfl⟩
  by_cases h0 : (pre T.data.toList).length = 0
  · have hz : (((pre T.data.toList).length : Nat) : Int) == 0 := by simp [h0]
    have Hf := Lib.hid (short_no HT2.out (.inl h0))
    clear h0
    go_wp2
    go_ret2
    exact ⟨ret2 Hf.out.1.symm Hf.out.2.symm, rfl⟩
  have hz : ((((pre T.data.toList).length : Nat) : Int) == 0) = false := by simp; exact fun h => h0 (by rw [h]; rfl)
  by_cases h1 : (pre T.data.toList).length < T.size
  · have Hf := Lib.hid (short_no HT2.out (.inr h1))
    clear h0
    go_wp2
    go_ret2
    exact ⟨ret2 Hf.out.1.symm Hf.out.2.symm, rfl⟩
  have hn : (pre T.data.toList).length = T.size := by omega
  have hT0 : 0 < T.size := by omega
  have HT0 := Lib.hid (lead_no HT2.out hT0)
  have HY := Lib.hid (lead_yes HT2.out hT0 hn)
  rw [Hm.out] at HT0 HY
  clear h0
  generalize hz64 : size64 (pre T.data.toList) = z at hsz
  generalize ho64 : over64 (pre T.data.toList) = o
  rw [hn] at h1 hz
  rw [hn]
  have Hz := Lib.hid hz64
  have Ho := Lib.hid ho64
  clear hz64 ho64 hn hpl
  by_cases h48 : T[0] = 48
  · have hc : ((T[0].toNat : Int) == 48) = true := by rw [h48]; rfl
    have H48 := Lib.hid h48
    clear h48
    cases m with
    | true =>
      have Hf := Lib.hid (HT0.out H48.out (.inl rfl))
      go_wp2
      go_ret2
      exact ⟨ret2 Hf.out.1.symm Hf.out.2.symm, rfl⟩
    | false =>
      by_cases hbig : 1 < T.size
      · have Hf := Lib.hid (HT0.out H48.out (.inr hbig))
        go_wp2
        go_ret2
        exact ⟨ret2 Hf.out.1.symm Hf.out.2.symm, rfl⟩
      · have Hy := Lib.hid (HY.out fun _ => ⟨rfl, by omega⟩)
        cases o with
        | true =>
          have Hv := Lib.hid (over_no (m := false) Ho.out)
          have He := Lib.hid Hy.out.1
          go_wp2
          go_ret2
          exact ⟨ret2 (by rw [Hy.out.2.1, ← He.out, Hv.out.1]) (by rw [Hy.out.2.2, ← He.out, Hv.out.2]), rfl⟩
        | false =>
          have Hv := Lib.hid (show z = val T.data.toList by rw [← Hz.out, size64_fits Ho.out, Hy.out.1])
          go_wp2_with fail
          refine (signed_any z (by omega) false _).mono ?_
          rintro e w' ⟨rfl, rfl⟩
          go_wp2
          go_ret2
          exact ⟨ret2 (by rw [Hy.out.2.1, Hv.out]) (by rw [Hy.out.2.2, Hv.out]), rfl⟩
  · have hc : ((T[0].toNat : Int) == 48) = false := by
      rw [beq_eq_false_iff_ne]
      intro e
      exact h48 (UInt8.toNat_inj.1 (by show T[0].toNat = 48; omega))
    have Hy := Lib.hid (HY.out fun h => absurd h h48)
    clear h48
    cases o with
    | true =>
      have Hv := Lib.hid (over_no (m := m) Ho.out)
      have He := Lib.hid Hy.out.1
      go_wp2
      go_ret2
      exact ⟨ret2 (by rw [Hy.out.2.1, ← He.out, Hv.out.1]) (by rw [Hy.out.2.2, ← He.out, Hv.out.2]), rfl⟩
    | false =>
      have Hv := Lib.hid (show z = val T.data.toList by rw [← Hz.out, size64_fits Ho.out, Hy.out.1])
      go_wp2_with fail
      refine (signed_any z (by omega) m _).mono ?_
      rintro e w' ⟨rfl, rfl⟩
      go_wp2
      go_ret2
      exact ⟨ret2 (by rw [Hy.out.2.1, Hv.out]) (by rw [Hy.out.2.2, Hv.out]), rfl⟩
end Go.Proofs.Ythnafenkpcnlbaa.dig
