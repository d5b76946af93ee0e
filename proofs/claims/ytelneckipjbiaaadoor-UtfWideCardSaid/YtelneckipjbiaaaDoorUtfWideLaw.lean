/- UtfWide: a point's bytes are one, two, three or four by its size; none begins within another. -/
import Derived.Test.YtelneckipjbiaaaDoorUtfSmall
namespace Go.Proofs.YtelneckipjbiaaaDoor.utf
open Go.RowKit

theorem ret_bool {a b : Bool} (h : a = b) : Ending.returned (.bool a) = .returned (.bool b) := by rw [h]
theorem kx (a n : Int) (h1 : 1 ≤ n) (h2 : n ≤ 4) : 0 ≤ (wrap64 (a.tmod n + n)).tmod n ∧ (wrap64 (a.tmod n + n)).tmod n < n := by
  have r1 := Int.tmod_lt_of_pos a (show 0 < n by omega)
  have r2 := Int.lt_tmod_of_pos a (show 0 < n by omega)
  rw [IntWalk.wrap64_in _ (by omega)]
  exact ⟨Int.tmod_nonneg _ (by omega), Int.tmod_lt_of_pos _ (by omega)⟩
theorem enc_cont (p : Int) (k : Nat) (hk : 0 < k) (c : UInt8) (h : (enc p)[k]? = some c) : cont c = true := by
  have key : ∀ m : Nat, m < 64 → cont (UInt8.ofNat (128 + m)) = true := fun m hm => by
    rw [cont_iff, ofNat_toNat _ (by omega)]; omega
  unfold enc at h
  by_cases hp : isPt p = true
  · rw [if_pos hp] at h
    unfold encN at h
    obtain ⟨j, rfl⟩ : ∃ j, k = j + 1 := ⟨k - 1, by omega⟩
    split at h
    · cases j <;> cases h
    · split at h
      · rcases j with _ | j
        · rw [← Option.some.inj (show some (UInt8.ofNat (128 + p.toNat % 64)) = some c from h)]; exact key _ (Nat.mod_lt _ (by omega))
        · cases j <;> cases h
      · split at h
        · rcases j with _ | _ | j
          · rw [← Option.some.inj (show some (UInt8.ofNat (128 + p.toNat / 64 % 64)) = some c from h)]; exact key _ (Nat.mod_lt _ (by omega))
          · rw [← Option.some.inj (show some (UInt8.ofNat (128 + p.toNat % 64)) = some c from h)]; exact key _ (Nat.mod_lt _ (by omega))
          · cases j <;> cases h
        · rcases j with _ | _ | _ | j
          · rw [← Option.some.inj (show some (UInt8.ofNat (128 + p.toNat / 4096 % 64)) = some c from h)]; exact key _ (Nat.mod_lt _ (by omega))
          · rw [← Option.some.inj (show some (UInt8.ofNat (128 + p.toNat / 64 % 64)) = some c from h)]; exact key _ (Nat.mod_lt _ (by omega))
          · rw [← Option.some.inj (show some (UInt8.ofNat (128 + p.toNat % 64)) = some c from h)]; exact key _ (Nat.mod_lt _ (by omega))
          · cases j <;> cases h
  · rw [if_neg hp] at h; simp at h
theorem lsz_cont {c : UInt8} (h : cont c = true) : lsz c.toNat = 0 := by
  have := (cont_iff c).1 h
  unfold lsz
  rw [if_neg (by omega), if_pos (by omega)]
theorem nxt_within (p : Int) (k : Nat) (hk : 0 < k) (h : k < psz p) (rest : List UInt8) : nxt ((enc p).drop k ++ rest) = (0, 0) := by
  have hl := enc_length p
  have hk' : k < (enc p).length := by omega
  rw [List.drop_eq_getElem_cons hk', List.cons_append]
  exact nxt_no (.inl (lsz_cont (enc_cont p k hk _ (List.getElem?_eq_getElem hk'))))
theorem sq_enc (p : Int) (h : isPt p = true) (a : Nat) (rest : List UInt8) : sq a (enc p ++ rest) = (a, p) :: sq (a + psz p) rest := by
  have hn := nxt_enc p rest h
  have hz : psz p ≠ 0 := fun e => by rw [psz_zero, h] at e; cases e
  rw [sq_step (by rw [hn]; exact hz), hn]
  have h0 := ((isPt_iff p).1 h).1
  simp only [Int.toNat_of_nonneg h0]
  rw [List.drop_append_of_le_length (by rw [enc_length]; exact Nat.le_refl _), ← enc_length p, List.drop_length, List.nil_append]
theorem count_enc (p : Int) (h : isPt p = true) : countOf (enc p) = 1 := by
  have e := sq_enc p h 0 []
  rw [List.append_nil, sq_nil] at e
  have h0 := ((isPt_iff p).1 h).1
  unfold countOf okB
  rw [e]
  have : badAt [(0, p)] = -1 := badAt_none (by intro x hx; simp at hx; subst hx; show p ≠ -1; omega)
  rw [this]
  rfl

set_option maxRecDepth 100000 in
set_option maxHeartbeats 2000000 in
theorem wide_no (p at_ : Int) (hp : isPt p = false) (w : World) (hT : Tab w) :
    Calls Tryd.prog 9 #[.int .i64 p, .int .i64 at_] w fun e w' => e = .returned (.bool true) ∧ Below w.heap.size w w' := by
  have he : (⟨(enc p).toArray⟩ : ByteArray) = ⟨#[]⟩ := by simp [enc, hp]
  have hc : p < 0 ∨ (0 ≤ p ∧ 1114111 < p) ∨ (0 ≤ p ∧ p ≤ 1114111 ∧ 55296 ≤ p ∧ p ≤ 57343) := by
    rcases Decidable.em (p < 0 ∨ (0 ≤ p ∧ 1114111 < p) ∨ (0 ≤ p ∧ p ≤ 1114111 ∧ 55296 ≤ p ∧ p ≤ 57343)) with e | e
    · exact e
    · have := (isPt_iff p).2 (by omega)
      rw [hp] at this; cases this
  have He := Lib.hid he
  have Hp := Lib.hid hp
  clear he hp
  rcases hc with hc | ⟨hc, hc'⟩ | ⟨hc, hc1, hc2, hc3⟩
  all_goals
    go_enter Tryd.func9, Tryd.ntmps9
    go_wp2_with fail
    refine (awake_any _ hT).mono ?_
    rintro e w1 ⟨rfl, hb1⟩
    have hT1 := hT.self hb1
    go_wp2_with fail
    refine (Encode_any p _ hT1).mono ?_
    rintro e w2 ⟨rfl, hb2⟩
    rw [He.out, Hp.out]
    go_wp2
    go_ret
    exact ⟨ret_bool (by first | rfl | (simp; omega)), hb1.trans (hb2.mono hb1.size)⟩

set_option maxRecDepth 100000 in
set_option maxHeartbeats 2000000 in
theorem wide_one (p at_ : Int) (hp : isPt p = true) (h2 : p ≤ 127) (w : World) (hT : Tab w) :
    Calls Tryd.prog 9 #[.int .i64 p, .int .i64 at_] w fun e w' => e = .returned (.bool true) ∧ Below w.heap.size w w' := by
  have hps : psz p = 1 := by rw [psz_hit (k := 0) (by have := (isPt_iff p).1 hp; omega) (by unfold missP; omega) (by have := (isPt_iff p).1 hp; omega)]
  have hpi := (isPt_iff p).1 hp
  have g0 : 0 ≤ p := by omega
  have g1 : p ≤ 1114111 := by omega
  have g2 : p < 55296 := by omega
  clear hpi
  have hk := kx at_ 1 (by omega) (by omega)
  have hlen : (⟨(enc p).toArray⟩ : ByteArray).size = 1 := by
    show (enc p).toArray.size = 1
    rw [List.size_toArray, enc_length, hps]
  have hct : countOf (⟨(enc p).toArray⟩ : ByteArray).data.toList = 1 := count_enc p hp
  have hn0 : nxtAt ⟨(enc p).toArray⟩ 0 = (p.toNat, 1) := by
    unfold nxtAt
    rw [if_pos (by rw [hlen]; omega)]
    have := nxt_enc p [] hp
    rw [List.append_nil, hps] at this
    exact this
  have hnk : ∀ K : Int, 0 < K → K < 1 → nxtAt ⟨(enc p).toArray⟩ K = (0, 0) := by
    intro K hK1 hK2
    unfold nxtAt
    rw [if_pos (by rw [hlen]; omega)]
    have := nxt_within p K.toNat (by omega) (by omega) []
    rw [List.append_nil] at this
    exact this
  have Hp := Lib.hid hp
  have Hn0 := Lib.hid hn0
  have Hnk := Lib.hid hnk
  have Hct := Lib.hid hct
  have Hx : Hid ((⟨(enc p).toArray⟩ : ByteArray).size ≤ maxLen) := by
    show (⟨(enc p).toArray⟩ : ByteArray).size ≤ maxLen
    rw [hlen]; unfold maxLen; omega
  have Hlen := Lib.hid hlen
  clear hp hps hn0 hnk hct hlen
  obtain ⟨K, hK⟩ : ∃ K, (wrap64 (at_.tmod 1 + 1)).tmod 1 = K := ⟨_, rfl⟩
  rw [hK] at hk
  have HK := Lib.hid hK
  clear hK
  obtain ⟨hk0, hk1⟩ := hk
  obtain ⟨X, hX⟩ : ∃ X : ByteArray, ⟨(enc p).toArray⟩ = X := ⟨_, rfl⟩
  rw [hX] at Hn0 Hnk Hct Hx Hlen
  have HX := Lib.hid hX
  clear hX
  go_enter Tryd.func9, Tryd.ntmps9
  go_wp2_with fail
  refine (awake_any _ hT).mono ?_
  rintro e w1 ⟨rfl, hb1⟩
  have hT1 := hT.self hb1
  go_wp2_with fail
  refine (Encode_any p _ hT1).mono ?_
  rintro e w2 ⟨rfl, hb2⟩
  rw [Hp.out, HX.out]
  have hT2 := hT1.self hb2
  have hB2 := hb1.trans (hb2.mono hb1.size)
  go_wp2_with fail
  refine (Next_any X Hx.out 0 _ hT2).mono ?_
  rintro e w3 ⟨rfl, hb3⟩
  have hT3 := hT2.self hb3
  have hB3 := hB2.trans (hb3.mono hB2.size)
  have hxl : ((X.size : Nat) : Int) = 1 := by rw [Hlen.out]; rfl
  rw [Hn0.out]
  go_wp2_with fail
  refine (Count_any X Hx.out _ hT3).mono ?_
  rintro e w4 ⟨rfl, hb4⟩
  rw [Hct.out]
  go_wp2
  go_ret
  exact ⟨ret_bool (by simp), hB3.trans (hb4.mono hB3.size)⟩
set_option maxRecDepth 100000 in
set_option maxHeartbeats 2000000 in
theorem wide_two (p at_ : Int) (hp : isPt p = true) (h1 : 127 < p) (h2 : p ≤ 2047) (w : World) (hT : Tab w) :
    Calls Tryd.prog 9 #[.int .i64 p, .int .i64 at_] w fun e w' => e = .returned (.bool true) ∧ Below w.heap.size w w' := by
  have hps : psz p = 2 := by rw [psz_hit (k := 1) (by have := (isPt_iff p).1 hp; omega) (by unfold missP; omega) (by have := (isPt_iff p).1 hp; omega)]
  have g0 : 0 ≤ p := by omega
  have g1 : p ≤ 1114111 := by omega
  have g2 : p < 55296 := by omega
  have hk := kx at_ 2 (by omega) (by omega)
  have hlen : (⟨(enc p).toArray⟩ : ByteArray).size = 2 := by
    show (enc p).toArray.size = 2
    rw [List.size_toArray, enc_length, hps]
  have hct : countOf (⟨(enc p).toArray⟩ : ByteArray).data.toList = 1 := count_enc p hp
  have hn0 : nxtAt ⟨(enc p).toArray⟩ 0 = (p.toNat, 2) := by
    unfold nxtAt
    rw [if_pos (by rw [hlen]; omega)]
    have := nxt_enc p [] hp
    rw [List.append_nil, hps] at this
    exact this
  have hnk : ∀ K : Int, 0 < K → K < 2 → nxtAt ⟨(enc p).toArray⟩ K = (0, 0) := by
    intro K hK1 hK2
    unfold nxtAt
    rw [if_pos (by rw [hlen]; omega)]
    have := nxt_within p K.toNat (by omega) (by omega) []
    rw [List.append_nil] at this
    exact this
  have Hp := Lib.hid hp
  have Hn0 := Lib.hid hn0
  have Hnk := Lib.hid hnk
  have Hct := Lib.hid hct
  have Hx : Hid ((⟨(enc p).toArray⟩ : ByteArray).size ≤ maxLen) := by
    show (⟨(enc p).toArray⟩ : ByteArray).size ≤ maxLen
    rw [hlen]; unfold maxLen; omega
  have Hlen := Lib.hid hlen
  clear hp hps hn0 hnk hct hlen
  obtain ⟨K, hK⟩ : ∃ K, (wrap64 (at_.tmod 2 + 2)).tmod 2 = K := ⟨_, rfl⟩
  rw [hK] at hk
  have HK := Lib.hid hK
  clear hK
  obtain ⟨hk0, hk1⟩ := hk
  obtain ⟨X, hX⟩ : ∃ X : ByteArray, ⟨(enc p).toArray⟩ = X := ⟨_, rfl⟩
  rw [hX] at Hn0 Hnk Hct Hx Hlen
  have HX := Lib.hid hX
  clear hX
  go_enter Tryd.func9, Tryd.ntmps9
  go_wp2_with fail
  refine (awake_any _ hT).mono ?_
  rintro e w1 ⟨rfl, hb1⟩
  have hT1 := hT.self hb1
  go_wp2_with fail
  refine (Encode_any p _ hT1).mono ?_
  rintro e w2 ⟨rfl, hb2⟩
  rw [Hp.out, HX.out]
  have hT2 := hT1.self hb2
  have hB2 := hb1.trans (hb2.mono hb1.size)
  go_wp2_with fail
  rw [HK.out]
  refine (Next_any X Hx.out K _ hT2).mono ?_
  rintro e w3 ⟨rfl, hb3⟩
  have hT3 := hT2.self hb3
  have hB3 := hB2.trans (hb3.mono hB2.size)
  have hxl : ((X.size : Nat) : Int) = 2 := by rw [Hlen.out]; rfl
  rcases Int.lt_or_eq_of_le hk0 with hk | hk
  · rw [Hnk.out K hk hk1]
    have htK : (K == 0) = false := beq_eq_false_iff_ne.2 (by omega)
    go_wp2_with fail
    refine (Count_any X Hx.out _ hT3).mono ?_
    rintro e w4 ⟨rfl, hb4⟩
    rw [Hct.out]
    go_wp2
    go_ret
    exact ⟨ret_bool (by simp), hB3.trans (hb4.mono hB3.size)⟩
  · subst hk
    rw [Hn0.out]
    go_wp2_with fail
    refine (Count_any X Hx.out _ hT3).mono ?_
    rintro e w4 ⟨rfl, hb4⟩
    rw [Hct.out]
    go_wp2
    go_ret
    exact ⟨ret_bool (by simp), hB3.trans (hb4.mono hB3.size)⟩
set_option maxRecDepth 100000 in
set_option maxHeartbeats 2000000 in
theorem wide_three (p at_ : Int) (hp : isPt p = true) (h1 : 2047 < p) (h2 : p ≤ 65535) (g2 : p < 55296 ∨ 57343 < p) (w : World) (hT : Tab w) :
    Calls Tryd.prog 9 #[.int .i64 p, .int .i64 at_] w fun e w' => e = .returned (.bool true) ∧ Below w.heap.size w w' := by
  have hps : psz p = 3 := by rw [psz_hit (k := 2) (by have := (isPt_iff p).1 hp; omega) (by unfold missP; omega) (by have := (isPt_iff p).1 hp; omega)]
  have g0 : 0 ≤ p := by omega
  have g1 : p ≤ 1114111 := by omega
  rcases g2 with g2 | g2
  all_goals
    have hk := kx at_ 3 (by omega) (by omega)
    have hlen : (⟨(enc p).toArray⟩ : ByteArray).size = 3 := by
      show (enc p).toArray.size = 3
      rw [List.size_toArray, enc_length, hps]
    have hct : countOf (⟨(enc p).toArray⟩ : ByteArray).data.toList = 1 := count_enc p hp
    have hn0 : nxtAt ⟨(enc p).toArray⟩ 0 = (p.toNat, 3) := by
      unfold nxtAt
      rw [if_pos (by rw [hlen]; omega)]
      have := nxt_enc p [] hp
      rw [List.append_nil, hps] at this
      exact this
    have hnk : ∀ K : Int, 0 < K → K < 3 → nxtAt ⟨(enc p).toArray⟩ K = (0, 0) := by
      intro K hK1 hK2
      unfold nxtAt
      rw [if_pos (by rw [hlen]; omega)]
      have := nxt_within p K.toNat (by omega) (by omega) []
      rw [List.append_nil] at this
      exact this
    have Hp := Lib.hid hp
    have Hn0 := Lib.hid hn0
    have Hnk := Lib.hid hnk
    have Hct := Lib.hid hct
    have Hx : Hid ((⟨(enc p).toArray⟩ : ByteArray).size ≤ maxLen) := by
      show (⟨(enc p).toArray⟩ : ByteArray).size ≤ maxLen
      rw [hlen]; unfold maxLen; omega
    have Hlen := Lib.hid hlen
    clear hp hps hn0 hnk hct hlen
    obtain ⟨K, hK⟩ : ∃ K, (wrap64 (at_.tmod 3 + 3)).tmod 3 = K := ⟨_, rfl⟩
    rw [hK] at hk
    have HK := Lib.hid hK
    clear hK
    obtain ⟨hk0, hk1⟩ := hk
    obtain ⟨X, hX⟩ : ∃ X : ByteArray, ⟨(enc p).toArray⟩ = X := ⟨_, rfl⟩
    rw [hX] at Hn0 Hnk Hct Hx Hlen
    have HX := Lib.hid hX
    clear hX
    go_enter Tryd.func9, Tryd.ntmps9
    go_wp2_with fail
    refine (awake_any _ hT).mono ?_
    rintro e w1 ⟨rfl, hb1⟩
    have hT1 := hT.self hb1
    go_wp2_with fail
    refine (Encode_any p _ hT1).mono ?_
    rintro e w2 ⟨rfl, hb2⟩
    rw [Hp.out, HX.out]
    have hT2 := hT1.self hb2
    have hB2 := hb1.trans (hb2.mono hb1.size)
    go_wp2_with fail
    rw [HK.out]
    refine (Next_any X Hx.out K _ hT2).mono ?_
    rintro e w3 ⟨rfl, hb3⟩
    have hT3 := hT2.self hb3
    have hB3 := hB2.trans (hb3.mono hB2.size)
    have hxl : ((X.size : Nat) : Int) = 3 := by rw [Hlen.out]; rfl
    rcases Int.lt_or_eq_of_le hk0 with hk | hk
    · rw [Hnk.out K hk hk1]
      have htK : (K == 0) = false := beq_eq_false_iff_ne.2 (by omega)
      go_wp2_with fail
      refine (Count_any X Hx.out _ hT3).mono ?_
      rintro e w4 ⟨rfl, hb4⟩
      rw [Hct.out]
      go_wp2
      go_ret
      exact ⟨ret_bool (by simp), hB3.trans (hb4.mono hB3.size)⟩
    · subst hk
      rw [Hn0.out]
      go_wp2_with fail
      refine (Count_any X Hx.out _ hT3).mono ?_
      rintro e w4 ⟨rfl, hb4⟩
      rw [Hct.out]
      go_wp2
      go_ret
      exact ⟨ret_bool (by simp), hB3.trans (hb4.mono hB3.size)⟩
set_option maxRecDepth 100000 in
set_option maxHeartbeats 2000000 in
theorem wide_four (p at_ : Int) (hp : isPt p = true) (h1 : 65535 < p) (w : World) (hT : Tab w) :
    Calls Tryd.prog 9 #[.int .i64 p, .int .i64 at_] w fun e w' => e = .returned (.bool true) ∧ Below w.heap.size w w' := by
  have hps : psz p = 4 := by rw [psz_hit (k := 3) (by have := (isPt_iff p).1 hp; omega) (by unfold missP; omega) (by have := (isPt_iff p).1 hp; omega)]
  have hpi := (isPt_iff p).1 hp
  have g0 : 0 ≤ p := by omega
  have g1 : p ≤ 1114111 := by omega
  have g2 : 57343 < p := by omega
  clear hpi
  have hk := kx at_ 4 (by omega) (by omega)
  have hlen : (⟨(enc p).toArray⟩ : ByteArray).size = 4 := by
    show (enc p).toArray.size = 4
    rw [List.size_toArray, enc_length, hps]
  have hct : countOf (⟨(enc p).toArray⟩ : ByteArray).data.toList = 1 := count_enc p hp
  have hn0 : nxtAt ⟨(enc p).toArray⟩ 0 = (p.toNat, 4) := by
    unfold nxtAt
    rw [if_pos (by rw [hlen]; omega)]
    have := nxt_enc p [] hp
    rw [List.append_nil, hps] at this
    exact this
  have hnk : ∀ K : Int, 0 < K → K < 4 → nxtAt ⟨(enc p).toArray⟩ K = (0, 0) := by
    intro K hK1 hK2
    unfold nxtAt
    rw [if_pos (by rw [hlen]; omega)]
    have := nxt_within p K.toNat (by omega) (by omega) []
    rw [List.append_nil] at this
    exact this
  have Hp := Lib.hid hp
  have Hn0 := Lib.hid hn0
  have Hnk := Lib.hid hnk
  have Hct := Lib.hid hct
  have Hx : Hid ((⟨(enc p).toArray⟩ : ByteArray).size ≤ maxLen) := by
    show (⟨(enc p).toArray⟩ : ByteArray).size ≤ maxLen
    rw [hlen]; unfold maxLen; omega
  have Hlen := Lib.hid hlen
  clear hp hps hn0 hnk hct hlen
  obtain ⟨K, hK⟩ : ∃ K, (wrap64 (at_.tmod 4 + 4)).tmod 4 = K := ⟨_, rfl⟩
  rw [hK] at hk
  have HK := Lib.hid hK
  clear hK
  obtain ⟨hk0, hk1⟩ := hk
  obtain ⟨X, hX⟩ : ∃ X : ByteArray, ⟨(enc p).toArray⟩ = X := ⟨_, rfl⟩
  rw [hX] at Hn0 Hnk Hct Hx Hlen
  have HX := Lib.hid hX
  clear hX
  go_enter Tryd.func9, Tryd.ntmps9
  go_wp2_with fail
  refine (awake_any _ hT).mono ?_
  rintro e w1 ⟨rfl, hb1⟩
  have hT1 := hT.self hb1
  go_wp2_with fail
  refine (Encode_any p _ hT1).mono ?_
  rintro e w2 ⟨rfl, hb2⟩
  rw [Hp.out, HX.out]
  have hT2 := hT1.self hb2
  have hB2 := hb1.trans (hb2.mono hb1.size)
  go_wp2_with fail
  rw [HK.out]
  refine (Next_any X Hx.out K _ hT2).mono ?_
  rintro e w3 ⟨rfl, hb3⟩
  have hT3 := hT2.self hb3
  have hB3 := hB2.trans (hb3.mono hB2.size)
  have hxl : ((X.size : Nat) : Int) = 4 := by rw [Hlen.out]; rfl
  rcases Int.lt_or_eq_of_le hk0 with hk | hk
  · rw [Hnk.out K hk hk1]
    have htK : (K == 0) = false := beq_eq_false_iff_ne.2 (by omega)
    go_wp2_with fail
    refine (Count_any X Hx.out _ hT3).mono ?_
    rintro e w4 ⟨rfl, hb4⟩
    rw [Hct.out]
    go_wp2
    go_ret
    exact ⟨ret_bool (by simp), hB3.trans (hb4.mono hB3.size)⟩
  · subst hk
    rw [Hn0.out]
    go_wp2_with fail
    refine (Count_any X Hx.out _ hT3).mono ?_
    rintro e w4 ⟨rfl, hb4⟩
    rw [Hct.out]
    go_wp2
    go_ret
    exact ⟨ret_bool (by simp), hB3.trans (hb4.mono hB3.size)⟩

theorem wide_walk (p at_ : Int) (w : World) (hT : Tab w) :
    Calls Tryd.prog 9 #[.int .i64 p, .int .i64 at_] w fun e w' => e = .returned (.bool true) ∧ Below w.heap.size w w' := by
  cases hp : isPt p
  · exact wide_no p at_ hp w hT
  · have hpi := (isPt_iff p).1 hp
    by_cases h1 : p ≤ 127
    · exact wide_one p at_ hp h1 w hT
    · by_cases h2 : p ≤ 2047
      · exact wide_two p at_ hp (by omega) h2 w hT
      · by_cases h3 : p ≤ 65535
        · exact wide_three p at_ hp (by omega) h3 (by omega) w hT
        · exact wide_four p at_ hp (by omega) w hT
end Go.Proofs.YtelneckipjbiaaaDoor.utf
