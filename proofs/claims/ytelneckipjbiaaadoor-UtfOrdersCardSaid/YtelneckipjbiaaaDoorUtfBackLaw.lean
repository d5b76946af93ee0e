/- UtfBack: the bytes of points are valid, and are just these points; a byte less at the end, of more than one, is not. -/
import Derived.Test.YtelneckipjbiaaaDoorUtfRow
import Derived.OpenShut
namespace Go.Proofs.YtelneckipjbiaaaDoor.utf
open Go.RowKit

/-- The slice at A reads as xs, wherever it lies. -/
def RowAt (w : World) (A : Option Addr) (xs : List Int) : Prop := 0 < xs.length → ∃ g off, A = some ⟨g, off, none⟩ ∧ g < w.heap.size ∧ ∀ j x, xs[j]? = some x → w.cell? ⟨g, off + j, none⟩ = some (.int .i64 x)

def lastB (P : List Int) : List UInt8 := (P.getLast?.map enc).getD []
theorem lastB_snoc (P : List Int) (p : Int) : lastB (P ++ [p]) = enc p := by simp [lastB]

theorem sq_encs (P : List Int) : ∀ (a : Nat) (rest : List UInt8), (∀ p ∈ P, isPt p = true) → ∃ xs, sq a (P.flatMap enc ++ rest) = xs ++ sq (a + (P.flatMap enc).length) rest ∧ sndL xs = P ∧ ∀ y ∈ xs, y.2 ≠ -1 := by
  induction P with
  | nil => intro a rest _; exact ⟨[], by simp, rfl, by simp⟩
  | cons p P ih =>
    intro a rest h
    have hp := h p (by simp)
    have h0 := ((isPt_iff p).1 hp).1
    obtain ⟨xs, e1, e2, e3⟩ := ih (a + psz p) rest (fun q hq => h q (by simp [hq]))
    refine ⟨(a, p) :: xs, ?_, by simp [sndL] at e2 ⊢; exact e2, ?_⟩
    · rw [List.flatMap_cons, List.append_assoc, sq_encP p hp, e1, List.length_append, enc_length, List.cons_append, Nat.add_assoc]
    · intro y hy
      rcases List.mem_cons.1 hy with rfl | hy
      · show p ≠ -1; omega
      · exact e3 y hy
theorem encs_ok (P : List Int) (h : ∀ p ∈ P, isPt p = true) : okB (P.flatMap enc) = true ∧ ptsOf (P.flatMap enc) = P ∧ badAt (sq 0 (P.flatMap enc)) = -1 ∧ countOf (P.flatMap enc) = (P.length : Nat) := by
  obtain ⟨xs, e1, e2, e3⟩ := sq_encs P 0 [] h
  rw [List.append_nil, sq_nil, List.append_nil] at e1
  have hok : okB (P.flatMap enc) = true := okB_of (by rw [e1]; exact e3)
  refine ⟨hok, by unfold ptsOf; rw [e1]; exact e2, by rw [e1]; exact badAt_none e3, ?_⟩
  unfold countOf
  rw [if_pos hok, e1, ← e2, sndL_len]
theorem nxt_cut (p : Int) (h : isPt p = true) (B : List UInt8) (hB : B = (enc p).take (psz p - 1)) : (nxt B).2 = 0 := by
  rcases Decidable.em ((nxt B).2 = 0) with e | e
  · exact e
  · exfalso
    have hz := psz_pos h
    have hne := nxt_enc p [] h
    rw [List.append_nil] at hne
    have hl : (enc p).length = psz p := enc_length p
    cases he : enc p with
    | nil => rw [he] at hl; simp at hl; omega
    | cons c r =>
      rw [he] at hne hl hB
      have hn1 : (nxt (c :: r)).2 ≠ 0 := by rw [hne]; exact hz
      obtain ⟨_, s2, _, _⟩ := nxt_shape hn1
      rw [hne] at s2
      have hlz : psz p = lsz c.toNat := congrArg Prod.snd s2
      cases hb : B with
      | nil => rw [hb] at e; exact e rfl
      | cons c' r' =>
        have hc : c' = c ∧ r'.length + 1 = psz p - 1 := by
          have hlen := congrArg List.length hB
          rw [hb] at hB hlen
          rw [List.length_take, hl] at hlen
          simp only [List.length_cons] at hlen
          obtain ⟨n, hn⟩ : ∃ n, psz p - 1 = n + 1 := ⟨psz p - 2, by omega⟩
          rw [hn, List.take_succ_cons] at hB
          injection hB with h1 _
          exact ⟨h1, by omega⟩
        obtain ⟨rfl, hr⟩ := hc
        rw [hb] at e
        obtain ⟨_, _, _, t4⟩ := nxt_shape e
        omega
theorem encs_cut (P : List Int) (p : Int) (h : ∀ q ∈ P ++ [p], isPt q = true) (h1 : 1 < (enc p).length) : okB ((P ++ [p]).flatMap enc |>.take (((P ++ [p]).flatMap enc).length - 1)) = false := by
  have hp := h p (by simp)
  have hP : ∀ q ∈ P, isPt q = true := fun q hq => h q (by simp [hq])
  have hl := enc_length p
  have e : ((P ++ [p]).flatMap enc |>.take (((P ++ [p]).flatMap enc).length - 1)) = P.flatMap enc ++ (enc p).take (psz p - 1) := by
    rw [List.flatMap_append, List.flatMap_cons, List.flatMap_nil, List.append_nil, List.length_append, hl, List.take_append, List.take_of_length_le (by omega)]
    congr 2
    omega
  rw [e]
  obtain ⟨xs, e1, _, e3⟩ := sq_encs P 0 ((enc p).take (psz p - 1)) hP
  have hb := sq_bad (a := 0 + (P.flatMap enc).length) (l := (enc p).take (psz p - 1)) (by
    intro hh
    have := congrArg List.length hh
    rw [List.length_take, hl, List.length_nil] at this
    omega) (nxt_cut p hp _ rfl)
  unfold okB
  rw [e1, hb, badAt_some [] e3 rfl, beq_eq_false_iff_ne]
  show ((0 + (P.flatMap enc).length : Nat) : Int) ≠ -1
  omega
theorem filter_snoc (l : List Int) (k : Nat) (x : Int) (h : l[k]? = some x) : (l.take (k + 1)).filter isPt = (l.take k).filter isPt ++ (if isPt x = true then [x] else []) := by
  rw [take_snoc l k x h, List.filter_append]
  congr 1
  by_cases hx : isPt x = true
  · simp [hx]
  · simp [hx]

theorem ret_bool2 {a b : Bool} (h : a = b) : Ending.returned (.bool a) = .returned (.bool b) := by rw [h]
theorem same_rows' (A B : Option Addr) (c d : Nat) (xs : List Int) (h1000 : xs.length ≤ 1000) (w : World) (h1 : RowIs w A xs) (h2 : RowIs w B xs) :
    Calls Tryd.prog 18 #[.slice A xs.length c, .slice B xs.length d] w fun e w' => e = .returned (.bool true) ∧ Below w.heap.size w w' := by
  rcases Nat.eq_zero_or_pos xs.length with h | h
  · rw [h]
    exact same_nil A B c d w
  · obtain ⟨g, rfl, _, a⟩ := h1 h
    obtain ⟨g', rfl, _, b⟩ := h2 h
    exact same_cons g g' c d xs h1000 w a b

set_option maxRecDepth 100000 in
set_option maxHeartbeats 4000000 in
theorem back_walk (A : Option Addr) (n c : Nat) (zs : List Int) (hn : zs.length = n) (hn2 : n ≤ 9223372036854775807) (w : World) (hT : Tab w) (hr : RowAt w A zs) :
    Calls Tryd.prog 5 #[.slice A n c] w fun e w' => e = .returned (.bool true) ∧ Below w.heap.size w w' := by
  subst hn
  have Hr := Lib.hid hr
  clear hr
  obtain ⟨i0, hi, hz0, hz1, hz2⟩ := info_parts info_int
  go_enter Tryd.func5, Tryd.ntmps5
  go_wp2_with fail
  refine (awake_any _ hT).mono ?_
  rintro e w1 ⟨rfl, hb1⟩
  go_wp2_with fail
  go_loopw [4, 5, 6, 7] (fun s v la i wr => ∃ (sv : Value) (k : Nat) (P : List Int), sv = v ∧ k ≤ zs.length ∧ k ≤ 20 ∧ i = .int .i64 k ∧ Hid ((zs.take k).filter isPt = P) ∧ P.length ≤ k ∧ s = .string ⟨(P.flatMap enc).toArray⟩ ∧ la = .string ⟨(lastB P).toArray⟩ ∧ wr.ownsRow w.heap.size 3 1 sv P.length (P.map (Value.int .i64)) ∧ Below w.heap.size w wr)
    (fun _ _ _ i _ => 20 - (intOf i).toNat)
  case atStart => exact ⟨_, 0, [], rfl, by omega, by omega, rfl, rfl, by simp, rfl, rfl, World.ownsRow_nil _ _ _ _, hb1⟩
  case round =>
    obtain ⟨sv, k, P, rfl, hk, hk20, rfl, hP, hPk, rfl, rfl, hrow, hB⟩ := hrel
    have hTr := hT.self hB
    by_cases hlt : k < zs.length
    · by_cases hlt2 : k < 20
      · obtain ⟨x, hx⟩ : ∃ x, zs[k]? = some x := ⟨_, List.getElem?_eq_getElem hlt⟩
        obtain ⟨g, off, rfl, hg, hc⟩ := Hr.out (by omega)
        have c1 : wr.cell? ⟨g, off + k, none⟩ = some (.int .i64 x) := (hB.cell (p := ⟨g, off + k, none⟩) hg).trans (hc k x hx)
        have Hsn := Lib.hid (filter_snoc zs k x hx)
        clear hc hx
        have hpl := encs_len P
        have hxl : (enc x).length ≤ 4 := by rw [enc_length]; exact psz_le x
        have hsum : (P.flatMap enc).length + (enc x).length ≤ 5000 := by omega
        go_wp2_with fail
        refine (Encode_any x _ hTr).mono ?_
        rintro e w3 ⟨rfl, hb3⟩
        have hB3 := hB.trans (hb3.mono hB.size)
        have hrow3 := own_below hrow hb3
        have hge := own_ge hrow3
        have c3 : w3.cell? ⟨g, off + k, none⟩ = some (.int .i64 x) := (hb3.cell (p := ⟨g, off + k, none⟩) (Nat.lt_of_lt_of_le hg hB.size)).trans c1
        clear c1 hpl hxl
        cases hp : isPt x
        · have Hp := Lib.hid hp
          clear hp
          go_wp2
          go_roundw
          case rel => exact ⟨sv, k + 1, P, rfl, by omega, by omega, by go_num, by show _ = _; rw [Hsn.out, hP, Hp.out]; simp, by omega, rfl, rfl, hrow3, hB3⟩
          case measure => simp [intOf]; omega
        · have Hp := Lib.hid hp
          clear hp
          generalize hF : P.flatMap enc = F at *
          have HF := Lib.hid hF
          clear hF
          go_wp2_with (at_builtin; refine wpList_append_own _ rfl _ _ 32 rfl w.heap.size 3 i0 (.int .i64 0) 1 8 Tryd.underlying32 hi hz0 hz1 hz2 rfl (by decide) sv _ _ rfl (hrow3.alloc _) ⟨w3.heap.size, 0, none⟩ 1 1 [.int .i64 x] rfl rfl (cell_one_new _ _ _) (by simp [Value.oneCell']) (by unfold maxLen; omega) (by omega) (by have := hB3.size; simp; omega) ?_; intro v' w4 hown' hgrow _)
          have hgr : Below w.heap.size w w4 := (hB3.alloc hB3.size _).grown hgrow (by have := hB3.size; simp; omega) hge
          go_roundw
          case rel => exact ⟨v', k + 1, P ++ [x], rfl, by omega, by omega, by go_num, by show _ = _; rw [Hsn.out, hP, Hp.out]; simp, by rw [List.length_append]; simp; omega, by rw [ba_append, List.flatMap_append, HF.out]; simp, by rw [lastB_snoc], by rw [List.length_append, List.map_append]; exact hown', hgr⟩
          case measure => simp [intOf]; omega
      · obtain rfl : k = 20 := by omega
        have hall : ∀ p ∈ P, isPt p = true := fun p hp => by rw [← hP] at hp; exact (List.mem_filter.1 hp).2
        obtain ⟨g1, g2, g3, g4⟩ := encs_ok P hall
        have hXl := encs_len P
        obtain ⟨X, hX⟩ : ∃ X : ByteArray, ⟨(P.flatMap enc).toArray⟩ = X := ⟨_, rfl⟩
        obtain ⟨L, hL⟩ : ∃ L : ByteArray, ⟨(lastB P).toArray⟩ = L := ⟨_, rfl⟩
        have hXd : P.flatMap enc = X.data.toList := by rw [← hX]
        have hXs : X.size ≤ 80 := by
          show X.data.size ≤ 80
          rw [← Array.length_toList, ← hXd]
          omega
        have Hcut : Hid (1 < L.size → 1 ≤ X.size ∧ okB (X.extract 0 (X.size - 1)).data.toList = false) := by
          intro h
          rcases List.eq_nil_or_concat P with rfl | ⟨P', p, rfl⟩
          · rw [← hL] at h; simp [lastB] at h; cases h
          · rw [← hL] at h
            have h1 : 1 < (enc p).length := by
              have e : (⟨(lastB (P'.concat p)).toArray⟩ : ByteArray).size = (enc p).length := by
                show (lastB (P'.concat p)).toArray.size = _
                rw [List.size_toArray, List.concat_eq_append, lastB_snoc]
              omega
            have hx1 : (enc p).length ≤ ((P'.concat p).flatMap enc).length := by
              rw [List.concat_eq_append, List.flatMap_append, List.length_append]; simp
            have hXz : X.size = ((P'.concat p).flatMap enc).length := by
              show X.data.size = _
              rw [hXd, Array.length_toList]
            refine ⟨by omega, ?_⟩
            rw [Lib.extract_data, List.drop_zero, Nat.sub_zero, ← hXd, hXz]
            rw [List.concat_eq_append] at hall ⊢
            exact encs_cut P' p hall h1
        rw [hXd] at g1 g2 g3 g4
        rw [hX, hL]
        have G1 := Lib.hid g1
        have G2 := Lib.hid g2
        have G3 := Lib.hid g3
        have G4 := Lib.hid g4
        have Hx : Hid (X.size ≤ maxLen) := by show X.size ≤ maxLen; unfold maxLen; omega
        have hP20 : P.length ≤ 1000 := by omega
        obtain ⟨A2, c2, rfl, hr2, _⟩ := row_of_own hrow
        have Hr2 := Lib.hid hr2
        clear hall g1 g2 g3 g4 hX hL hXd hXl hP hrow hr2
        go_wp2_with fail
        refine (Points_any X (by omega) _ hTr).mono ?_
        rintro e w3 ⟨⟨h0, _⟩ | ⟨_, v1, rfl, hown1⟩, hb3⟩
        case inl => rw [G1.out] at h0; cases h0
        rw [G2.out] at hown1
        have hB3 := hB.trans (hb3.mono hB.size)
        obtain ⟨A1, c1, rfl, hr1, _⟩ := row_of_own hown1
        have Hr1 := Lib.hid hr1
        have Hr3 : Hid (RowIs w3 A2 P) := Hr2.out.below hb3
        clear hown1 hr1
        go_wp2_with fail
        refine (same_rows' A1 A2 c1 c2 P hP20 _ Hr1.out Hr3.out).mono ?_
        rintro e w5 ⟨rfl, hb5⟩
        have hB5 := hB3.trans (hb5.mono hB3.size)
        have hT5 := hT.self hB5
        by_cases hL1 : 1 < L.size
        · obtain ⟨hx1, hcut⟩ := Hcut.out hL1
          have Hcut2 := Lib.hid hcut
          clear hcut
          have hL2 : (1 : Int) < L.size := by omega
          go_wp2_with fail
          refine (Valid_any (X.extract 0 (X.size - 1)) (by rw [ByteArray.size_extract]; unfold maxLen; omega) _ hT5).mono ?_
          rintro e w6 ⟨rfl, hb6⟩
          rw [Hcut2.out]
          have hB6 := hB5.trans (hb6.mono hB5.size)
          have hT6 := hT.self hB6
          go_wp2_with fail
          refine (Count_any X Hx.out _ hT6).mono ?_
          rintro e w7 ⟨rfl, hb7⟩
          rw [G4.out]
          have hB7 := hB6.trans (hb7.mono hB6.size)
          have hT7 := hT.self hB7
          go_wp2_with fail
          refine (Bad_any X Hx.out _ hT7).mono ?_
          rintro e w8 ⟨rfl, hb8⟩
          rw [G3.out]
          go_wp2
          go_ret
          exact ⟨ret_bool2 (by simp), hB7.trans (hb8.mono hB7.size)⟩
        · have hL2 : (L.size : Int) ≤ 1 := by omega
          go_wp2_with fail
          refine (Count_any X Hx.out _ hT5).mono ?_
          rintro e w7 ⟨rfl, hb7⟩
          rw [G4.out]
          have hB7 := hB5.trans (hb7.mono hB5.size)
          have hT7 := hT.self hB7
          go_wp2_with fail
          refine (Bad_any X Hx.out _ hT7).mono ?_
          rintro e w8 ⟨rfl, hb8⟩
          rw [G3.out]
          go_wp2
          go_ret
          exact ⟨ret_bool2 (by simp), hB7.trans (hb8.mono hB7.size)⟩
    · obtain rfl : k = zs.length := by omega
      have hall : ∀ p ∈ P, isPt p = true := fun p hp => by rw [← hP] at hp; exact (List.mem_filter.1 hp).2
      obtain ⟨g1, g2, g3, g4⟩ := encs_ok P hall
      have hXl := encs_len P
      obtain ⟨X, hX⟩ : ∃ X : ByteArray, ⟨(P.flatMap enc).toArray⟩ = X := ⟨_, rfl⟩
      obtain ⟨L, hL⟩ : ∃ L : ByteArray, ⟨(lastB P).toArray⟩ = L := ⟨_, rfl⟩
      have hXd : P.flatMap enc = X.data.toList := by rw [← hX]
      have hXs : X.size ≤ 80 := by
        show X.data.size ≤ 80
        rw [← Array.length_toList, ← hXd]
        omega
      have Hcut : Hid (1 < L.size → 1 ≤ X.size ∧ okB (X.extract 0 (X.size - 1)).data.toList = false) := by
        intro h
        rcases List.eq_nil_or_concat P with rfl | ⟨P', p, rfl⟩
        · rw [← hL] at h; simp [lastB] at h; cases h
        · rw [← hL] at h
          have h1 : 1 < (enc p).length := by
            have e : (⟨(lastB (P'.concat p)).toArray⟩ : ByteArray).size = (enc p).length := by
              show (lastB (P'.concat p)).toArray.size = _
              rw [List.size_toArray, List.concat_eq_append, lastB_snoc]
            omega
          have hx1 : (enc p).length ≤ ((P'.concat p).flatMap enc).length := by
            rw [List.concat_eq_append, List.flatMap_append, List.length_append]; simp
          have hXz : X.size = ((P'.concat p).flatMap enc).length := by
            show X.data.size = _
            rw [hXd, Array.length_toList]
          refine ⟨by omega, ?_⟩
          rw [Lib.extract_data, List.drop_zero, Nat.sub_zero, ← hXd, hXz]
          rw [List.concat_eq_append] at hall ⊢
          exact encs_cut P' p hall h1
      rw [hXd] at g1 g2 g3 g4
      rw [hX, hL]
      have G1 := Lib.hid g1
      have G2 := Lib.hid g2
      have G3 := Lib.hid g3
      have G4 := Lib.hid g4
      have Hx : Hid (X.size ≤ maxLen) := by show X.size ≤ maxLen; unfold maxLen; omega
      have hP20 : P.length ≤ 1000 := by omega
      obtain ⟨A2, c2, rfl, hr2, _⟩ := row_of_own hrow
      have Hr2 := Lib.hid hr2
      clear hall g1 g2 g3 g4 hX hL hXd hXl hP hrow hr2
      go_wp2_with fail
      refine (Points_any X (by omega) _ hTr).mono ?_
      rintro e w3 ⟨⟨h0, _⟩ | ⟨_, v1, rfl, hown1⟩, hb3⟩
      case inl => rw [G1.out] at h0; cases h0
      rw [G2.out] at hown1
      have hB3 := hB.trans (hb3.mono hB.size)
      obtain ⟨A1, c1, rfl, hr1, _⟩ := row_of_own hown1
      have Hr1 := Lib.hid hr1
      have Hr3 : Hid (RowIs w3 A2 P) := Hr2.out.below hb3
      clear hown1 hr1
      go_wp2_with fail
      refine (same_rows' A1 A2 c1 c2 P hP20 _ Hr1.out Hr3.out).mono ?_
      rintro e w5 ⟨rfl, hb5⟩
      have hB5 := hB3.trans (hb5.mono hB3.size)
      have hT5 := hT.self hB5
      by_cases hL1 : 1 < L.size
      · obtain ⟨hx1, hcut⟩ := Hcut.out hL1
        have Hcut2 := Lib.hid hcut
        clear hcut
        have hL2 : (1 : Int) < L.size := by omega
        go_wp2_with fail
        refine (Valid_any (X.extract 0 (X.size - 1)) (by rw [ByteArray.size_extract]; unfold maxLen; omega) _ hT5).mono ?_
        rintro e w6 ⟨rfl, hb6⟩
        rw [Hcut2.out]
        have hB6 := hB5.trans (hb6.mono hB5.size)
        have hT6 := hT.self hB6
        go_wp2_with fail
        refine (Count_any X Hx.out _ hT6).mono ?_
        rintro e w7 ⟨rfl, hb7⟩
        rw [G4.out]
        have hB7 := hB6.trans (hb7.mono hB6.size)
        have hT7 := hT.self hB7
        go_wp2_with fail
        refine (Bad_any X Hx.out _ hT7).mono ?_
        rintro e w8 ⟨rfl, hb8⟩
        rw [G3.out]
        go_wp2
        go_ret
        exact ⟨ret_bool2 (by simp), hB7.trans (hb8.mono hB7.size)⟩
      · have hL2 : (L.size : Int) ≤ 1 := by omega
        go_wp2_with fail
        refine (Count_any X Hx.out _ hT5).mono ?_
        rintro e w7 ⟨rfl, hb7⟩
        rw [G4.out]
        have hB7 := hB5.trans (hb7.mono hB5.size)
        have hT7 := hT.self hB7
        go_wp2_with fail
        refine (Bad_any X Hx.out _ hT7).mono ?_
        rintro e w8 ⟨rfl, hb8⟩
        rw [G3.out]
        go_wp2
        go_ret
        exact ⟨ret_bool2 (by simp), hB7.trans (hb8.mono hB7.size)⟩
end Go.Proofs.YtelneckipjbiaaaDoor.utf
