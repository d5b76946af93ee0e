/- UtfSteps: a valid text is gone through by Next in as many steps as it has points; of another the steps end at Bad. -/
import Derived.Test.YtelneckipjbiaaaDoorUtfSmall
namespace Go.Proofs.YtelneckipjbiaaaDoor.utf
open Go.RowKit

theorem count_bad {l : List UInt8} {ini : List (Nat × Int)} {last : Nat × Int} {rest : List (Nat × Int)} (e : sq 0 l = ini ++ last :: rest) (h : ∀ y ∈ ini, y.2 ≠ -1) (hl : last.2 = -1) : badAt (sq 0 l) = last.1 ∧ countOf l = -1 := by
  have hb : badAt (sq 0 l) = last.1 := by rw [e]; exact badAt_some rest h hl
  refine ⟨hb, ?_⟩
  unfold countOf okB
  rw [hb, if_neg]
  rw [beq_iff_eq]; omega
theorem count_ok {l : List UInt8} (h : ∀ y ∈ sq 0 l, y.2 ≠ -1) : badAt (sq 0 l) = -1 ∧ countOf l = ((sq 0 l).length : Nat) := by
  have hb := badAt_none h
  refine ⟨hb, ?_⟩
  unfold countOf okB
  rw [hb]
  rfl

set_option maxRecDepth 100000 in
set_option maxHeartbeats 4000000 in
theorem steps_walk (s : ByteArray) (hs : s.size ≤ maxLen) (w : World) (hT : Tab w) :
    Calls Tryd.prog 6 #[.string s] w fun e w' => e = .returned (.bool true) ∧ Below w.heap.size w w' := by
  have hx : (s.extract 0 60).size ≤ 60 := by rw [ByteArray.size_extract]; omega
  go_enter Tryd.func6, Tryd.ntmps6
  go_wp2_with fail
  refine (awake_any _ hT).mono ?_
  rintro e w1 ⟨rfl, hb1⟩
  go_wp2_with fail
  refine (short_any s hs 60 _).mono ?_
  rintro e w2 ⟨rfl, rfl⟩
  generalize s.extract 0 60 = x at *
  have Hx : Hid (x.size ≤ maxLen) := by show x.size ≤ maxLen; unfold maxLen; omega
  go_wp2_with fail
  go_loopw [4, 5] (fun a st wr => ∃ (k : Nat) (pre : List (Nat × Int)), a = .int .i64 k ∧ st = .int .i64 (pre.length : Nat) ∧ k ≤ x.size ∧ Hid (sq 0 x.data.toList = pre ++ sq k (x.data.toList.drop k)) ∧ Hid (∀ y ∈ pre, y.2 ≠ -1) ∧ pre.length ≤ k ∧ Below w.heap.size w wr)
    (fun a _ _ => x.size - (intOf a).toNat)
  case atStart => exact ⟨0, [], rfl, rfl, by omega, rfl, (fun y hy => by cases hy), by simp, hb1⟩
  case round =>
    obtain ⟨k, pre, rfl, rfl, hk, hsq, hne, hpl, hB⟩ := hrel
    have hTr := hT.self hB
    by_cases hlt : k < x.size
    · have Hat := Lib.hid (nxtAt_nat x k hlt)
      have hdl : (x.data.toList.drop k).length = x.size - k := by rw [List.length_drop, Array.length_toList]; rfl
      have hle : (nxt (x.data.toList.drop k)).2 ≤ x.size - k := by rw [← hdl]; exact nxt_le _
      have hm4 := nxt_le4 (x.data.toList.drop k)
      go_wp2_with fail
      refine (Next_any x Hx.out (k : Int) _ hTr).mono ?_
      rintro e w3 ⟨rfl, hb3⟩
      rw [Hat.out]
      have hB3 := hB.trans (hb3.mono hB.size)
      have hT3 := hT.self hB3
      by_cases hm : (nxt (x.data.toList.drop k)).2 = 0
      · have hl : x.data.toList.drop k ≠ [] := fun e => by rw [e] at hdl; simp at hdl; omega
        have hsq2 : sq 0 x.data.toList = pre ++ (k, -1) :: [] := by rw [hsq, sq_bad (a := k) hl hm]
        obtain ⟨g1, g2⟩ := count_bad hsq2 hne rfl
        have G1 := Lib.hid g1
        have G2 := Lib.hid g2
        clear g1 g2 hsq2 hl
        have hm0 : (((nxt (x.data.toList.drop k)).2 : Nat) : Int) = 0 := by omega
        rw [hm0]
        clear hm hm0
        go_wp2_with fail
        refine (Bad_any x Hx.out _ hT3).mono ?_
        rintro e w4 ⟨rfl, hb4⟩
        rw [G1.out]
        have hB4 := hB3.trans (hb4.mono hB3.size)
        have hT4 := hT.self hB4
        go_wp2_with fail
        refine (Count_any x Hx.out _ hT4).mono ?_
        rintro e w5 ⟨rfl, hb5⟩
        rw [G2.out]
        go_wp2
        go_ret
        exact ⟨rfl, hB4.trans (hb5.mono hB4.size)⟩
      · obtain ⟨a1, a2, a3, a4⟩ := nxt_some hm
        have hstep := sq_step (a := k) hm
        have hsq2 : sq 0 x.data.toList = (pre ++ [(k, ((nxt (x.data.toList.drop k)).1 : Int))]) ++ sq (k + (nxt (x.data.toList.drop k)).2) (x.data.toList.drop (k + (nxt (x.data.toList.drop k)).2)) := by
          rw [hsq, hstep, List.drop_drop, List.append_assoc]; rfl
        have hne2 : ∀ y ∈ pre ++ [(k, ((nxt (x.data.toList.drop k)).1 : Int))], y.2 ≠ -1 := fun y hy =>
          (List.mem_append.1 hy).elim (hne y) (fun e => by simp at e; subst e; show ((nxt (x.data.toList.drop k)).1 : Int) ≠ -1; omega)
        have Hsq2 := Lib.hid hsq2
        have Hne2 := Lib.hid hne2
        have A1 := Lib.hid a1
        have hz : ((((nxt (x.data.toList.drop k)).2 : Nat) : Int) == 0) = false := beq_eq_false_iff_ne.2 (by omega)
        have hpos : 0 < (nxt (x.data.toList.drop k)).2 := by omega
        have hcut : (x.extract k (k + (nxt (x.data.toList.drop k)).2)).toList = enc ((nxt (x.data.toList.drop k)).1 : Int) := by
          rw [Lib.extract_toList, Nat.add_sub_cancel_left]; exact a3
        have ht : (enc ((nxt (x.data.toList.drop k)).1 : Int) == (x.extract k (k + (nxt (x.data.toList.drop k)).2)).toList) = true := by rw [hcut, beq_iff_eq]
        clear hsq2 hne2 hstep a1 a2 a3 a4 hm hcut
        generalize hq : (nxt (x.data.toList.drop k)).1 = q at *
        generalize hmm : (nxt (x.data.toList.drop k)).2 = m at *
        clear hq hmm
        go_wp2_with fail
        refine (Encode_any (q : Int) _ hT3).mono ?_
        rintro e w4 ⟨rfl, hb4⟩
        rw [A1.out]
        go_wp2
        go_roundw
        case rel => exact ⟨k + m, _, by go_num, by rw [List.length_append]; go_num, by omega, Hsq2.out, Hne2.out, by rw [List.length_append]; simp; omega, hB3.trans (hb4.mono hB3.size)⟩
        case measure => simp [intOf]; omega
    · obtain rfl : k = x.size := by omega
      have hsq2 : sq 0 x.data.toList = pre := by
        rw [hsq, List.drop_of_length_le (by rw [Array.length_toList]; exact Nat.le_refl _), sq_nil, List.append_nil]
      obtain ⟨g1, g2⟩ := count_ok (l := x.data.toList) (by rw [hsq2]; exact hne)
      rw [hsq2] at g1 g2
      have G1 : Hid (badAt (sq 0 x.data.toList) = -1) := by show _ = _; rw [hsq2]; exact g1
      have G2 := Lib.hid g2
      clear g1 g2 hsq2
      go_wp2_with fail
      refine (Bad_any x Hx.out _ hTr).mono ?_
      rintro e w4 ⟨rfl, hb4⟩
      rw [G1.out]
      have hB4 := hB.trans (hb4.mono hB.size)
      have hT4 := hT.self hB4
      go_wp2_with fail
      refine (Count_any x Hx.out _ hT4).mono ?_
      rintro e w5 ⟨rfl, hb5⟩
      rw [G2.out]
      go_wp2
      go_ret
      exact ⟨rfl, hB4.trans (hb5.mono hB4.size)⟩
end Go.Proofs.YtelneckipjbiaaaDoor.utf
