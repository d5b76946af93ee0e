/- Layer 7: names.LabelKey at texts of every length: strings.Cut at one byte is walked. -/
import Derived.Test.YtodobacgbbpmfaaDoorNamSub
import Derived.Shelf.Strings.Search1
import Derived.Lib.IndexBytes
import Derived.Lib.IndexLaws
import Derived.BigQuiet
import Derived.Deep.QuietTactic
import Derived.WalkSpells
namespace Go.Proofs.YtodobacgbbpmfaaDoor.nam
open Go.RowKit Go.Shelf

theorem ret_int {a b : Int} (h : a = b) : Ending.returned (.int .i64 a) = .returned (.int .i64 b) := by rw [h]
def ren217 : Go.Shelf.Ren :=
  { f := fun x => if x = 217 then 75 else if x = 266 then 82 else x,
    t := fun x => if x = 3 then 3 else if x = 5 then 5 else if x = 9 then 9 else x,
    g := fun x => x }
theorem lay217 : Lays.n217 Tryd.prog ren217 := {
  mixed := by kernel_rfl
  f217 := by kernel_rfl
  f266 := by kernel_rfl
  t3 := by kernel_rfl
  a3 := fun _ => by kernel_rfl
  z3 := fun _ => by kernel_rfl
  v3 := fun _ => by kernel_rfl
  t5 := by kernel_rfl
  a5 := fun _ => by kernel_rfl
  z5 := fun _ => by kernel_rfl
  v5 := fun _ => by kernel_rfl
  t9 := by kernel_rfl
  a9 := fun _ => by kernel_rfl
  z9 := fun _ => by kernel_rfl
  v9 := fun _ => by kernel_rfl }
theorem indexByte47 (s : ByteArray) (w : World) :
    Calls Tryd.prog 75 #[.string s, .int .u8 47] w fun e w' => e = .returned (.int .i64 (Lib.index s.data.toList [47])) ∧ w = w' := by
  rw [Lib.index_one]
  exact (Any.stringslite_IndexByte lay217 s 47 w).mono fun _ _ ⟨h1, h2⟩ => ⟨h1, h2.symm⟩
set_option maxRecDepth 100000 in
theorem index47 (s : ByteArray) (w : World) :
    Calls Tryd.prog 72 #[.string s, .string ⟨#[47]⟩] w fun e w' => e = .returned (.int .i64 (Lib.index s.data.toList [47])) ∧ w = w' := by
  by_cases h : s = ⟨#[47]⟩
  · subst h
    go_enter Tryd.func72, Tryd.ntmps72
    go_wp2
    go_ret
    exact ⟨ret_int (by decide +kernel), rfl⟩
  · have he : ([47] == s.toList) = false := by
      rw [beq_eq_false_iff_ne, ByteArray.toList_eq]
      intro e
      exact h (ByteArray.ext (Array.toList_inj.1 e.symm))
    clear h
    go_enter Tryd.func72, Tryd.ntmps72
    go_wp2_with fail
    refine (indexByte47 s _).mono ?_
    rintro e w' ⟨rfl, rfl⟩
    go_wp2
    go_ret
    exact ⟨rfl, rfl⟩
theorem index_bd (l : List UInt8) : -1 ≤ Lib.index l [47] ∧ (Lib.index l [47] = -1 ∨ Lib.index l [47] < l.length) := by
  rw [Lib.index_one]
  refine ⟨Lib.indexByte_ge _ _, ?_⟩
  by_cases h : 0 ≤ Lib.indexByte l 47
  · obtain ⟨o, ho⟩ := Int.eq_ofNat_of_zero_le h
    obtain ⟨h1, _⟩ := Lib.indexByte_some ho
    have := (List.getElem?_eq_some_iff.1 h1).1
    exact .inr (by omega)
  · have := Lib.indexByte_ge l 47
    exact .inl (by omega)
theorem cut_of {l : List UInt8} {i : Nat} (h : Lib.index l [47] = (i : Int)) : Lib.cut l [47] = (l.take i, l.drop (i + 1), true) := by
  unfold Lib.cut
  rw [h, if_pos (by omega)]; rfl
theorem cut_no {l : List UInt8} (h : Lib.index l [47] = -1) : Lib.cut l [47] = (l, [], false) := by
  unfold Lib.cut
  rw [h, if_neg (by omega)]
def CutTo (s : ByteArray) (w : World) (e : Ending) (w' : World) : Prop :=
  e = .returned (.tuple #[.string ⟨(Lib.cut s.data.toList [47]).1.toArray⟩, .string ⟨(Lib.cut s.data.toList [47]).2.1.toArray⟩, .bool (Lib.cut s.data.toList [47]).2.2]) ∧ ∃ n, w' = w.drewN n
theorem cutTo_mk {s : ByteArray} {w : World} {a b : ByteArray} {c : Bool} (n : Nat) (h : Lib.cut s.data.toList [47] = (a.data.toList, b.data.toList, c)) : CutTo s w (.returned (.tuple #[.string a, .string b, .bool c])) (w.drewN n) :=
  ⟨by rw [h], n, rfl⟩
theorem cut47' (s : ByteArray) (hs : s.size ≤ 9223372036854775807) (w : World) : Calls Tryd.prog 66 #[.string s, .string ⟨#[47]⟩] w (CutTo s w) := by
  have ci := fun w => index47 s w
  obtain ⟨h1, h2⟩ := index_bd s.data.toList
  rw [len_data] at h2
  by_cases h : Lib.index s.data.toList [47] = -1
  · have H := Lib.hid (cut_no h)
    rw [h] at ci
    clear h1 h2 h
    go_enter Tryd.func66, Tryd.ntmps66
    go_wp2_with fail
    refine (ci _).mono ?_
    rintro e w' ⟨rfl, rfl⟩
    go_wp2
    go_ret3
    exact cutTo_mk (b := ⟨#[]⟩) 0 H.out
  · obtain ⟨i, hi⟩ := Int.eq_ofNat_of_zero_le (show 0 ≤ Lib.index s.data.toList [47] by omega)
    have H := Lib.hid (cut_of hi)
    have hlt : i < s.size := by omega
    rw [hi] at ci
    clear h1 h2 h hi
    go_enter Tryd.func66, Tryd.ntmps66
    go_wp2_with fail
    refine (ci _).mono ?_
    rintro e w' ⟨rfl, rfl⟩
    go_wp2
    go_quiet (fail)
    go_wp2
    go_ret3
    exact cutTo_mk nq (by rw [H.out, Lib.extract_data, Lib.extract_to_end]; rfl)
theorem cut47 (s : ByteArray) (hs : s.size ≤ 9223372036854775807) (w : World) : Calls Tryd.prog 50 #[.string s, .string ⟨#[47]⟩] w (CutTo s w) := by
  go_enter Tryd.func50, Tryd.ntmps50
  go_wp2_with fail
  refine (cut47' s hs _).mono ?_
  rintro e w1 ⟨rfl, n, rfl⟩
  go_wp2
  go_ret3
  exact ⟨rfl, n, rfl⟩
set_option maxHeartbeats 1000000 in
theorem Subdomain_all (s : ByteArray) (hs : s.size ≤ 9223372036854775807) (w : World) (hm : MaxL w) :
    Calls Tryd.prog 52 #[.string s] w fun e w' => e = .returned (.bool (subB s.data.toList)) ∧ Below w.heap.size w w' := by
  by_cases hlen : s.size ≤ 253
  · obtain ⟨hn, hps⟩ := pieces_of 46 s
    have cs := fun w hm => split_any s ⟨#[46]⟩ w (by omega) hm (by decide)
    generalize Lib.splitB ⟨#[46]⟩ 0 (Lib.countB s ⟨#[46]⟩) s = ps at hn hps cs
    generalize Lib.countB s ⟨#[46]⟩ + 1 = n at hn cs
    subst hn
    have hnn : ps.length ≤ 1000 := by
      have h1 := spl_len_le 46 s.data.toList
      rw [← hps, List.length_map, len_data] at h1; omega
    have Hps := Lib.hid hps
    clear hps
    have hB1 : ∀ o, Below w.heap.size w (w.alloc o) := fun o => (Below.refl _ _).alloc (Nat.le_refl _) o
    go_enter Tryd.func52, Tryd.ntmps52
    go_wp2_with fail
    refine (cs _ hm).mono ?_
    rintro e w1 ⟨rfl, hw1⟩
    have hc1 := fun k h => cell_row w ps 9 k h
    rw [← hw1] at hc1
    have hz1 : w1.heap.size = w.heap.size + 1 := by rw [hw1]; simp
    have hb1 : Below w.heap.size w w1 := by rw [hw1]; exact hB1 _
    have Hc1 := Lib.hid hc1
    clear hw1 hc1 hB1
    go_wp2
    go_loopw [11] (fun v wr => ∃ k : Nat, k ≤ ps.length ∧ v = .int .i64 k ∧ Hid (∀ i (hi : i < ps.length), i < k → labB ps[i].data.toList = true) ∧ Below w1.heap.size w1 wr) (fun v _ => ps.length - (intOf v).toNat)
    case atStart => exact ⟨0, by omega, rfl, fun i _ hi => by omega, Below.refl _ _⟩
    case round =>
      obtain ⟨k, hk, rfl, Ha, hbr⟩ := hrel
      by_cases hlt : k < ps.length
      · have hc : wr.cell? ⟨w.heap.size, k, none⟩ = some (.string ps[k]) := (hbr.cell (p := ⟨w.heap.size, k, none⟩) (by show w.heap.size < _; omega)).trans (Hc1.out k hlt)
        have hsz := piece_size Hps.out (List.getElem_mem hlt)
        have cl := fun w => Label_any ps[k] (by unfold maxLen; omega) w
        cases hL : labB ps[k].data.toList with
        | true =>
          have Hn := Lib.hid (show ∀ i (hi : i < ps.length), i < k + 1 → labB ps[i].data.toList = true from fun i hi hik => by
            by_cases e : i = k
            · subst e; exact hL
            · exact Ha.out i hi (by omega))
          rw [hL] at cl
          clear hL
          go_wp2_with fail
          refine (cl _).mono ?_
          rintro e w2 ⟨rfl, hb2⟩
          have hbr2 := hbr.trans (hb2.mono hbr.size)
          go_wp2
          go_roundw
          case rel => exact ⟨k + 1, by omega, by go_num, Hn, hbr2⟩
          case measure => simp [intOf]; omega
        | false =>
          have Hn := Lib.hid (sub_no Hps.out k hlt hL)
          rw [hL] at cl
          clear hL
          go_wp2_with fail
          refine (cl _).mono ?_
          rintro e w2 ⟨rfl, hb2⟩
          have hbr2 := hbr.trans (hb2.mono hbr.size)
          go_wp2
          go_ret
          exact ⟨ret_bool Hn.out.symm, hb1.trans (hbr2.mono (by omega))⟩
      · have Hn := Lib.hid (sub_yes Hps.out hlen fun i hi => Ha.out i hi (by omega))
        go_wp2
        go_ret
        exact ⟨ret_bool Hn.out.symm, hb1.trans (hbr.mono (by omega))⟩
  · have H := Lib.hid (show subB s.data.toList = false by unfold subB; rw [len_data, decide_eq_false hlen]; rfl)
    have hl : (253 : Int) < s.size := by omega
    go_enter Tryd.func52, Tryd.ntmps52
    go_wp2
    go_ret
    exact ⟨ret_bool H.out.symm, Below.refl _ _⟩

set_option maxHeartbeats 1000000 in
theorem LabelKey_all (s : ByteArray) (hs : s.size ≤ 9223372036854775807) (w : World) (hm : MaxL w) :
    Calls Tryd.prog 32 #[.string s] w fun e w' => e = .returned (.bool (keyB s.data.toList)) ∧ Below w.heap.size w w' := by
  have cc : ∀ w, MaxL w → Calls Tryd.prog 50 #[.string s, .string ⟨#[47]⟩] w fun e w' => e = .returned (.tuple #[.string ⟨(Lib.cut s.data.toList [47]).1.toArray⟩, .string ⟨(Lib.cut s.data.toList [47]).2.1.toArray⟩, .bool (Lib.cut s.data.toList [47]).2.2]) ∧ ∃ n, w' = w.drewN n := fun w _ => cut47 s hs w
  cases hf : (Lib.cut s.data.toList [47]).2.2 with
  | false =>
    have H := Lib.hid (show keyB s.data.toList = keyNameB s.data.toList by unfold keyB; rw [hf]; rfl)
    rw [hf] at cc
    clear hf
    go_enter Tryd.func32, Tryd.ntmps32
    go_wp2_with fail
    refine (cc _ hm).mono ?_
    rintro e w1 ⟨rfl, n, hw1⟩
    have hb1 : Below w.heap.size w w1 := by rw [hw1]; exact below_drewN w n
    clear hw1
    go_wp2_with fail
    refine (keyName_any s (by unfold maxLen; omega) _).mono ?_
    rintro e w2 ⟨rfl, hb2⟩
    go_wp2
    go_ret
    exact ⟨ret_bool H.out.symm, hb1.trans (hb2.mono hb1.size)⟩
  | true =>
    obtain ⟨hl1, hl2⟩ := cut_len s 47 hf
    have H := Lib.hid (show keyB s.data.toList = (subB (Lib.cut s.data.toList [47]).1 && keyNameB (Lib.cut s.data.toList [47]).2.1) by unfold keyB; rw [hf]; rfl)
    rw [hf] at cc
    clear hf
    generalize (Lib.cut s.data.toList [47]).1 = x at *
    generalize (Lib.cut s.data.toList [47]).2.1 = y at *
    have hx := size_mk x
    have hy := size_mk y
    have cx := fun w hm => Subdomain_all ⟨x.toArray⟩ (by omega) w hm
    have cy := fun w => keyName_any ⟨y.toArray⟩ (by unfold maxLen; omega) w
    clear hx hy
    cases hsub : subB x with
    | true =>
      have cx' : ∀ w, MaxL w → Calls Tryd.prog 52 #[.string ⟨x.toArray⟩] w fun e w' => e = .returned (.bool true) ∧ Below w.heap.size w w' := fun w hm => by have := cx w hm; rw [mk_data, hsub] at this; exact this
      have cy' : ∀ w, Calls Tryd.prog 51 #[.string ⟨y.toArray⟩] w fun e w' => e = .returned (.bool (keyNameB y)) ∧ Below w.heap.size w w' := cy
      have H2 := Lib.hid (show keyB s.data.toList = keyNameB y by rw [H.out, hsub]; rfl)
      clear H cx cy hsub
      go_enter Tryd.func32, Tryd.ntmps32
      go_wp2_with fail
      refine (cc _ hm).mono ?_
      rintro e w1 ⟨rfl, n, hw1⟩
      have hb1 : Below w.heap.size w w1 := by rw [hw1]; exact below_drewN w n
      clear hw1
      go_wp2_with fail
      refine (cx' _ (hm.later hb1)).mono ?_
      rintro e w2 ⟨rfl, hb2⟩
      go_wp2_with fail
      refine (cy' _).mono ?_
      rintro e w3 ⟨rfl, hb3⟩
      have hb12 := hb1.trans (hb2.mono hb1.size)
      go_wp2
      go_ret
      exact ⟨ret_bool H2.out.symm, hb12.trans (hb3.mono hb12.size)⟩
    | false =>
      have cx' : ∀ w, MaxL w → Calls Tryd.prog 52 #[.string ⟨x.toArray⟩] w fun e w' => e = .returned (.bool false) ∧ Below w.heap.size w w' := fun w hm => by have := cx w hm; rw [mk_data, hsub] at this; exact this
      have H2 := Lib.hid (show keyB s.data.toList = false by rw [H.out, hsub]; rfl)
      clear H cx cy hsub
      go_enter Tryd.func32, Tryd.ntmps32
      go_wp2_with fail
      refine (cc _ hm).mono ?_
      rintro e w1 ⟨rfl, n, hw1⟩
      have hb1 : Below w.heap.size w w1 := by rw [hw1]; exact below_drewN w n
      clear hw1
      go_wp2_with fail
      refine (cx' _ (hm.later hb1)).mono ?_
      rintro e w2 ⟨rfl, hb2⟩
      go_wp2
      go_ret
      exact ⟨ret_bool H2.out.symm, hb1.trans (hb2.mono hb1.size)⟩
end Go.Proofs.YtodobacgbbpmfaaDoor.nam
