/- UtfOrders: of two valid texts the less one by bytes is the less one by points. -/
import Derived.Test.YtelneckipjbiaaaDoorUtfOrd
namespace Go.Proofs.YtelneckipjbiaaaDoor.utf
open Go.RowKit

set_option maxRecDepth 100000 in
set_option maxHeartbeats 8000000 in
theorem orders_walk (A : Option Addr) (n c : Nat) (zs : List Int) (hn : zs.length = n) (hn2 : n ≤ 9223372036854775807) (B : Option Addr) (m d : Nat) (ys : List Int) (hm : ys.length = m) (hm2 : m ≤ 9223372036854775807)
    (w : World) (hT : Tab w) (hr : RowAt w A zs) (hr2 : RowAt w B ys) :
    Calls Tryd.prog 8 #[.slice A n c, .slice B m d] w fun e w' => e = .returned (.bool true) ∧ Below w.heap.size w w' := by
  subst hn hm
  have Hr := Lib.hid hr
  have Hr2 := Lib.hid hr2
  clear hr hr2
  obtain ⟨i0, hi, hz0, hz1, hz2⟩ := info_parts info_int
  go_enter Tryd.func8, Tryd.ntmps8
  go_wp2_with fail
  refine (awake_any _ hT).mono ?_
  rintro e w1 ⟨rfl, hb1⟩
  go_wp2_with fail
  go_loopw [6, 8, 10] (fun s v i wr => ∃ (sv : Value) (k : Nat) (P : List Int), sv = v ∧ k ≤ zs.length ∧ k ≤ 10 ∧ i = .int .i64 k ∧ Hid ((zs.take k).filter isPt = P) ∧ P.length ≤ k ∧ s = .string ⟨(P.flatMap enc).toArray⟩ ∧ wr.ownsRow w.heap.size 3 1 sv P.length (P.map (Value.int .i64)) ∧ Below w.heap.size w wr)
    (fun _ _ i _ => 10 - (intOf i).toNat)
  case atStart => exact ⟨_, 0, [], rfl, by omega, by omega, rfl, rfl, by simp, rfl, World.ownsRow_nil _ _ _ _, hb1⟩
  case round =>
    obtain ⟨sv, k, P, rfl, hk, hk10, rfl, hP, hPk, rfl, hrow, hB⟩ := hrel
    have hBw : Below w.heap.size w wr := hB
    have hTr := hT.self hBw
    by_cases hlt : k < zs.length ∧ k < 10
    · obtain ⟨hlt, hlt2⟩ := hlt
      obtain ⟨x, hx⟩ : ∃ x, zs[k]? = some x := ⟨_, List.getElem?_eq_getElem hlt⟩
      obtain ⟨g, off, rfl, hg, hc⟩ := Hr.out (by omega)
      have c1 : wr.cell? ⟨g, off + k, none⟩ = some (.int .i64 x) := (hBw.cell (p := ⟨g, off + k, none⟩) hg).trans (hc k x hx)
      have Hsn := Lib.hid (filter_snoc zs k x hx)
      clear hc hx
      have hpl := encs_len P
      have hxl : (enc x).length ≤ 4 := by rw [enc_length]; exact psz_le x
      have hsum : (P.flatMap enc).length + (enc x).length ≤ 5000 := by omega
      go_wp2_with fail
      refine (Encode_any x _ hTr).mono ?_
      rintro e w3 ⟨rfl, hb3⟩
      have hB3 := hB.trans (hb3.mono hB.size)
      have hrow3 := own_below hrow hb3
      have hge := own_ge hrow3
      have c3 : w3.cell? ⟨g, off + k, none⟩ = some (.int .i64 x) := (hb3.cell (p := ⟨g, off + k, none⟩) (Nat.lt_of_lt_of_le hg hBw.size)).trans c1
      clear c1 hpl hxl
      cases hp : isPt x
      · have Hp := Lib.hid hp
        clear hp
        go_wp2
        go_roundw
        case rel => exact ⟨sv, k + 1, P, rfl, by omega, by omega, by go_num, by show _ = _; rw [Hsn.out, hP, Hp.out]; simp, by omega, rfl, hrow3, hB3⟩
        case measure => simp [intOf]; omega
      · have Hp := Lib.hid hp
        clear hp
        generalize hF : P.flatMap enc = F at *
        have HF := Lib.hid hF
        clear hF
        go_wp2_with (at_builtin; refine wpList_append_own _ rfl _ _ 32 rfl w.heap.size 3 i0 (.int .i64 0) 1 8 Tryd.underlying32 hi hz0 hz1 hz2 rfl (by decide) sv _ _ rfl (hrow3.alloc _) ⟨w3.heap.size, 0, none⟩ 1 1 [.int .i64 x] rfl rfl (cell_one_new _ _ _) (by simp [Value.oneCell']) (by unfold maxLen; omega) (by omega) (by have := hB3.size; simp; omega) ?_; intro v' w4 hown' hgrow _)
        have hgr : Below w.heap.size w w4 := (hB3.alloc hB3.size _).grown hgrow (by have := hB3.size; simp; omega) hge
        go_roundw
        case rel => exact ⟨v', k + 1, P ++ [x], rfl, by omega, by omega, by go_num, by show _ = _; rw [Hsn.out, hP, Hp.out]; simp, by rw [List.length_append]; simp; omega, by rw [ba_append, List.flatMap_append, HF.out]; simp, by rw [List.length_append, List.map_append]; exact hown', hgr⟩
        case measure => simp [intOf]; omega
    · have HQ : ∀ p ∈ P, isPt p = true := fun p hp => by rw [← hP] at hp; exact (List.mem_filter.1 hp).2
      have hP10 : P.length ≤ 10 := by omega
      have hex : zs.length ≤ k ∨ (k < zs.length ∧ 10 ≤ k) := by omega
      clear hP hlt
      rcases hex with hex | ⟨hex, hex2⟩
      all_goals
        obtain ⟨A1, c1, rfl, hra, _⟩ := row_of_own hrow
        obtain ⟨W0, hW0⟩ : ∃ W0 : World, W0 = wr := ⟨_, rfl⟩
        subst hW0
        obtain ⟨P1, hP1⟩ : ∃ P1 : List Int, P1 = P := ⟨_, rfl⟩
        subst hP1
        have Hrow1 := Lib.hid hra
        have HP1 := Lib.hid HQ
        have hB0 := hBw
        have hP110 : P1.length ≤ 10 := hP10
        clear hra hrow HQ hB hBw hPk hP10
        go_wp2
        clear hex
        try clear hex2
        go_loopw [7, 9, 13] (fun s v i wr => ∃ (sv : Value) (k : Nat) (P : List Int), sv = v ∧ k ≤ ys.length ∧ k ≤ 10 ∧ i = .int .i64 k ∧ Hid ((ys.take k).filter isPt = P) ∧ P.length ≤ k ∧ s = .string ⟨(P.flatMap enc).toArray⟩ ∧ wr.ownsRow W0.heap.size 3 1 sv P.length (P.map (Value.int .i64)) ∧ Below W0.heap.size W0 wr)
          (fun _ _ i _ => 10 - (intOf i).toNat)
        case atStart => exact ⟨_, 0, [], rfl, by omega, by omega, rfl, rfl, by simp, rfl, World.ownsRow_nil _ _ _ _, Below.refl _ _⟩
        case round =>
          obtain ⟨sv, k, P, rfl, hk, hk10, rfl, hP, hPk, rfl, hrow, hB⟩ := hrel
          have hBw : Below w.heap.size w wr := (hB0.trans (hB.mono hB0.size))
          have hTr := hT.self hBw
          by_cases hlt : k < ys.length ∧ k < 10
          · obtain ⟨hlt, hlt2⟩ := hlt
            obtain ⟨x, hx⟩ : ∃ x, ys[k]? = some x := ⟨_, List.getElem?_eq_getElem hlt⟩
            obtain ⟨g, off, rfl, hg, hc⟩ := Hr2.out (by omega)
            have c1 : wr.cell? ⟨g, off + k, none⟩ = some (.int .i64 x) := (hBw.cell (p := ⟨g, off + k, none⟩) hg).trans (hc k x hx)
            have Hsn := Lib.hid (filter_snoc ys k x hx)
            clear hc hx
            have hpl := encs_len P
            have hxl : (enc x).length ≤ 4 := by rw [enc_length]; exact psz_le x
            have hsum : (P.flatMap enc).length + (enc x).length ≤ 5000 := by omega
            go_wp2_with fail
            refine (Encode_any x _ hTr).mono ?_
            rintro e w3 ⟨rfl, hb3⟩
            have hB3 := hB.trans (hb3.mono hB.size)
            have hrow3 := own_below hrow hb3
            have hge := own_ge hrow3
            have c3 : w3.cell? ⟨g, off + k, none⟩ = some (.int .i64 x) := (hb3.cell (p := ⟨g, off + k, none⟩) (Nat.lt_of_lt_of_le hg hBw.size)).trans c1
            clear c1 hpl hxl
            cases hp : isPt x
            · have Hp := Lib.hid hp
              clear hp
              go_wp2
              go_roundw
              case rel => exact ⟨sv, k + 1, P, rfl, by omega, by omega, by go_num, by show _ = _; rw [Hsn.out, hP, Hp.out]; simp, by omega, rfl, hrow3, hB3⟩
              case measure => simp [intOf]; omega
            · have Hp := Lib.hid hp
              clear hp
              generalize hF : P.flatMap enc = F at *
              have HF := Lib.hid hF
              clear hF
              go_wp2_with (at_builtin; refine wpList_append_own _ rfl _ _ 32 rfl W0.heap.size 3 i0 (.int .i64 0) 1 8 Tryd.underlying32 hi hz0 hz1 hz2 rfl (by decide) sv _ _ rfl (hrow3.alloc _) ⟨w3.heap.size, 0, none⟩ 1 1 [.int .i64 x] rfl rfl (cell_one_new _ _ _) (by simp [Value.oneCell']) (by unfold maxLen; omega) (by omega) (by have := hB3.size; simp; omega) ?_; intro v' w4 hown' hgrow _)
              have hgr : Below W0.heap.size W0 w4 := (hB3.alloc hB3.size _).grown hgrow (by have := hB3.size; simp; omega) hge
              go_roundw
              case rel => exact ⟨v', k + 1, P ++ [x], rfl, by omega, by omega, by go_num, by show _ = _; rw [Hsn.out, hP, Hp.out]; simp, by rw [List.length_append]; simp; omega, by rw [ba_append, List.flatMap_append, HF.out]; simp, by rw [List.length_append, List.map_append]; exact hown', hgr⟩
              case measure => simp [intOf]; omega
          · have HQ : ∀ p ∈ P, isPt p = true := fun p hp => by rw [← hP] at hp; exact (List.mem_filter.1 hp).2
            have hP10 : P.length ≤ 10 := by omega
            have hex : ys.length ≤ k ∨ (k < ys.length ∧ 10 ≤ k) := by omega
            clear hP hlt
            rcases hex with hex | ⟨hex, hex2⟩
            all_goals
              have hlex := lex_bytes P1 P HP1.out HQ
              have hbl : Op.bytesLess (P1.flatMap enc) (P.flatMap enc) = lexL P1 P := hlex
              obtain ⟨A2, c2, rfl, hra, _⟩ := row_of_own hrow
              have hrb := Hrow1.out.below hB
              have Hra := Lib.hid hra
              have Hrb := Lib.hid hrb
              have Hbl := Lib.hid hbl
              have HB := Lib.hid hBw
              have hl1 : P1.length ≤ 9223372036854775807 := by omega
              have hl2 : P.length ≤ 9223372036854775807 := by omega
              clear hlex hbl hra hrb hrow hB hB0 HQ
              generalize hX1 : (P1.flatMap enc).toArray = X1 at *
              generalize hX2 : (P.flatMap enc).toArray = X2 at *
              have HX1 : Hid ((⟨X1⟩ : ByteArray).toList = P1.flatMap enc) := by show _ = _; rw [Lib.toList_data, ← hX1]
              have HX2 : Hid ((⟨X2⟩ : ByteArray).toList = P.flatMap enc) := by show _ = _; rw [Lib.toList_data, ← hX2]
              clear hX1 hX2
              go_wp2
              clear hex
              try clear hex2
              go_loopw [16, 17] (fun l i w5 => ∃ j m : Nat, j ≤ P1.length ∧ j ≤ P.length ∧ i = .int .i64 j ∧ l = .bool (decide (P1.length < P.length)) ∧ Hid (P1.take j = P.take j) ∧ w5 = wr.drewN m) (fun _ i _ => P1.length - (intOf i).toNat)
              case atStart => exact ⟨0, 0, by omega, by omega, rfl, rfl, rfl, rfl⟩
              case round =>
                obtain ⟨j, m, hj1, hj2, rfl, rfl, ht, rfl⟩ := hrel
                by_cases hg : j < P1.length ∧ j < P.length
                · obtain ⟨hg1, hg2⟩ := hg
                  obtain ⟨x, hx⟩ : ∃ x, P1[j]? = some x := ⟨_, List.getElem?_eq_getElem hg1⟩
                  obtain ⟨y, hy⟩ : ∃ y, P[j]? = some y := ⟨_, List.getElem?_eq_getElem hg2⟩
                  obtain ⟨g1, rfl, _, hc1⟩ := Hrb.out (by omega)
                  obtain ⟨g2, rfl, _, hc2⟩ := Hra.out (by omega)
                  have d1 := hc1 j x hx
                  have d2 := hc2 j y hy
                  have hi0 : (0 : Int) ≤ j := by omega
                  have hi1 : (j : Int) < P1.length := by omega
                  have hi2 : (j : Int) < P.length := by omega
                  clear hc1 hc2
                  by_cases e : x = y
                  · have Hs1 := Lib.hid (take_snoc P1 j x hx)
                    have Hs2 := Lib.hid (take_snoc P j y hy)
                    clear hx hy
                    subst e
                    go_wp2
                    go_quiet (fail)
                    go_wp2
                    go_roundw
                    case rel => exact ⟨j + 1, m + nq, by omega, by omega, by go_num, rfl, by show _ = _; rw [Hs1.out, Hs2.out, ht], rfl⟩
                    case measure => simp [intOf]; omega
                  · have Hfin : Hid (Op.bytesLess (⟨X1⟩ : ByteArray).toList (⟨X2⟩ : ByteArray).toList = decide (x < y)) := by
                      show _ = _
                      rw [HX1.out, HX2.out, Hbl.out]
                      exact lex_break j P1 P x y ht hx hy e
                    have hne : (x != y) = true := by rw [bne_iff_ne]; exact e
                    clear hx hy e
                    go_wp2
                    go_quiet (fail)
                    go_wp2
                    go_quiet (fail)
                    go_wp2
                    go_ret
                    exact ⟨ret_bool2 (by rw [Hfin.out]; simp), bdrewN HB.out _⟩
                · have hend : j = P1.length ∨ j = P.length := by omega
                  have Hfin : Hid (Op.bytesLess (⟨X1⟩ : ByteArray).toList (⟨X2⟩ : ByteArray).toList = decide (P1.length < P.length)) := by
                    show _ = _
                    rw [HX1.out, HX2.out, Hbl.out]
                    exact lex_end j P1 P ht hend hj1 hj2
                  have hex : P1.length ≤ j ∨ (j < P1.length ∧ P.length ≤ j) := by omega
                  clear hend hg
                  rcases hex with hex | ⟨hex, hex2⟩
                  all_goals
                    go_wp2
                    go_ret
                    exact ⟨ret_bool2 (by rw [Hfin.out]; simp), bdrewN HB.out _⟩
end Go.Proofs.YtelneckipjbiaaaDoor.utf
