/- Layer 3: the walk of NamesJoins. -/
import Derived.Test.YtdiighgnlckllaaDoorNamWord
namespace Go.Proofs.YtdiighgnlckllaaDoor.nam
open Go.RowKit Go.Shelf

/-- A slice of numbers that came in, as a row that a walk reads. -/
def RowAt (w : World) (A : Option Addr) (xs : List Int) : Prop := 0 < xs.length → ∃ g off, A = some ⟨g, off, none⟩ ∧ g < w.heap.size ∧ ∀ j x, xs[j]? = some x → w.cell? ⟨g, off + j, none⟩ = some (.int .i64 x)
theorem cat_eq (a b : List UInt8) : (⟨a.toArray⟩ : ByteArray) ++ ⟨b.toArray⟩ = ⟨(a ++ b).toArray⟩ := Value.string.inj (cat_val a b)

theorem sub_at (l : List UInt8) (b : Bool) (hl : l.length ≤ 1000) (h : subB l = b) (s : ByteArray) (hs : s = ⟨l.toArray⟩) (w : World) (hm : MaxL w) : Calls Tryd.prog 13 #[.string s] w fun e w' => e = .returned (.bool b) ∧ Below w.heap.size w w' := by
  subst hs; subst h; exact Subdomain_any _ (by rw [size_mk]; omega) w hm
theorem key_at (l : List UInt8) (b : Bool) (hl : l.length ≤ 1000) (h : keyB l = b) (s : ByteArray) (hs : s = ⟨l.toArray⟩) (w : World) (hm : MaxL w) : Calls Tryd.prog 19 #[.string s] w fun e w' => e = .returned (.bool b) ∧ Below w.heap.size w w' := by
  subst hs; subst h; exact LabelKey_any _ (by rw [size_mk]; omega) w hm
theorem lab_at (l : List UInt8) (b : Bool) (hl : l.length ≤ 1000) (h : labB l = b) (s : ByteArray) (hs : s = ⟨l.toArray⟩) (w : World) : Calls Tryd.prog 11 #[.string s] w fun e w' => e = .returned (.bool b) ∧ Below w.heap.size w w' := by
  subst hs; subst h; exact Label_any _ (by rw [size_mk]; unfold maxLen; omega) w
theorem seg_at (l : List UInt8) (b : Bool) (hl : l.length ≤ 1000) (h : segB l = b) (s : ByteArray) (hs : s = ⟨l.toArray⟩) (w : World) : Calls Tryd.prog 15 #[.string s] w fun e w' => e = .returned (.bool b) ∧ Below w.heap.size w w' := by
  subst hs; subst h; exact Segment_any _ (by rw [size_mk]; unfold maxLen; omega) w
theorem path_at (l : List UInt8) (b : Bool) (hl : l.length ≤ 1000) (h : pathB l = b) (s : ByteArray) (hs : s = ⟨l.toArray⟩) (w : World) : Calls Tryd.prog 23 #[.string s] w fun e w' => e = .returned (.bool b) ∧ w = w' := by
  subst hs; subst h; exact Path_any _ (by rw [size_mk]; unfold maxLen; omega) w

set_option maxRecDepth 100000 in
set_option maxHeartbeats 8000000 in
theorem joins_walk (A : Option Addr) (len cap : Nat) (zs : List Int) (hz : zs.length = len) (hlen : len ≤ 9223372036854775807) (n : Int) (w : World) (hr : RowAt w A zs) (hm : MaxL w) :
    Calls Tryd.prog 6 #[.slice A len cap, .int .i64 n] w fun e w' => e = .returned (.bool true) ∧ Below w.heap.size w w' := by
  have Hz := Lib.hid hz
  have Hr := Lib.hid hr
  clear hz hr
  go_enter Tryd.func6, Tryd.ntmps6
  go_wp2_with fail
  refine (awake_any _ hm).mono ?_
  rintro e w1 ⟨rfl, hb1⟩
  go_wp2
  go_loopw [6, 7] (fun v a wr => ∃ (k : Nat) (x : List UInt8), v = .string ⟨x.toArray⟩ ∧ a = .int .i64 k ∧ k ≤ len ∧ k ≤ 8 ∧ Hid (Jd k x) ∧ x.length ≤ 60 ∧ Below w.heap.size w wr) (fun _ a _ => 8 - (intOf a).toNat)
  case atStart => exact ⟨0, [], rfl, rfl, by omega, by omega, Jd_none, by simp, hb1⟩
  case round =>
    obtain ⟨k, x, rfl, rfl, hkl, hk8, hj, hxl, hB⟩ := hrel
    have hxi : (x.length : Int) ≤ 60 := by omega
    by_cases hlt : k < len
    · have hlt' : (k : Int) < len := by omega
      by_cases h8 : k < 8
      · have h8' : (k : Int) < 8 := by omega
        obtain ⟨g, off, rfl, hg, hcells⟩ := Hr.out (by have := Hz.out; omega)
        have hzk : zs[k]? = some (zs[k]'(by have := Hz.out; omega)) := List.getElem?_eq_getElem _
        have hcell : wr.cell? ⟨g, off + k, none⟩ = some (.int .i64 (zs[k]'(by have := Hz.out; omega))) := (hB.cell (p := ⟨g, off + k, none⟩) hg).trans (hcells k _ hzk)
        generalize (zs[k]'(by have := Hz.out; omega)) = z at hcell
        clear hzk hcells
        by_cases h0 : 0 < k
        · have h0' : (0 : Int) < k := by omega
          go_wp2_with fail
          refine (word_any z _).mono ?_
          rintro e wk ⟨y, hy, rfl, hbk⟩
          have hyl : (y.length : Int) ≤ 5 := by have := hy.2.1; omega
          have Hj := Lib.hid (Jd_next hj.out h0 hy)
          have hl2 : (x ++ [46] ++ y).length ≤ 60 := by have := Hj.out.1; omega
          have Hv := Lib.hid (show Value.string (((⟨x.toArray⟩ : ByteArray) ++ ⟨#[46]⟩) ++ ⟨y.toArray⟩) = .string ⟨(x ++ [46] ++ y).toArray⟩ by rw [← cat_val (x ++ [46]) y, ← cat_eq x [46]])
          have hB2 := chain hB hbk
          clear hy
          go_wp2
          go_roundw
          case rel => exact ⟨k + 1, x ++ [46] ++ y, Hv.out, by go_num, by omega, by omega, Hj, hl2, hB2⟩
          case measure => simp [intOf]; omega
        · obtain rfl : x = [] := hj.out.2.1 (by omega)
          have h0' : ¬ (0 : Int) < k := by omega
          go_wp2_with fail
          refine (word_any z _).mono ?_
          rintro e wk ⟨y, hy, rfl, hbk⟩
          have hyl : (y.length : Int) ≤ 5 := by have := hy.2.1; omega
          have Hj := Lib.hid (show Jd (k + 1) y by have e : k = 0 := by omega
                                                   rw [e]; exact Jd_first hy)
          have hl2 : y.length ≤ 60 := by have := hy.2.1; omega
          have hB2 := chain hB hbk
          have Hv := Lib.hid (cat_val [] y)
          clear hy
          go_wp2
          go_roundw
          case rel => exact ⟨k + 1, y, Hv.out, by go_num, by omega, by omega, Hj, hl2, hB2⟩
          case measure => simp [intOf]; omega
      · have h8' : ¬ (k : Int) < 8 := by omega
        go_wp2_with fail
        have e0 : ((len : Int) == 0) = false := beq_eq_false_iff_ne.2 (by omega)
        have hkp : 0 < k := by omega
        refine (word_any n _).mono ?_
        rintro e wk ⟨y, hy, rfl, hbk⟩
        have HB := chain hB hbk
        have HM := hm.later HB
        have hyl : (y.length : Int) ≤ 5 := by have := hy.2.1; omega
        have hyn : y.length ≤ 5 := hy.2.1
        clear hbk
        have J := hj.out
        have cS := fun w hm => sub_at x true (by omega) (Jd_sub J hkp hk8) ⟨x.toArray⟩ rfl w hm
        have cK := fun w hm => key_at (x ++ [47] ++ y) true (by simp; omega) (Jd_key J hkp hk8 hy) (((⟨x.toArray⟩ : ByteArray) ++ ⟨#[47]⟩) ++ ⟨y.toArray⟩) (by rw [← cat_eq (x ++ [47]) y, ← cat_eq x [47]]) w hm
        have cK0 := fun w hm => key_at (x ++ [47]) false (by simp; omega) (Jd_key0 J hkp) ((⟨x.toArray⟩ : ByteArray) ++ ⟨#[47]⟩) (cat_eq x [47]) w hm
        have cS0 := fun w hm => sub_at (x ++ [46]) false (by simp; omega) Jd_sub0 ((⟨x.toArray⟩ : ByteArray) ++ ⟨#[46]⟩) (cat_eq x [46]) w hm
        have cL := fun w => lab_at (x ++ [46, 120]) false (by simp; omega) Jd_lab0 ((⟨x.toArray⟩ : ByteArray) ++ ⟨#[46, 120]⟩) (cat_eq x [46, 120]) w
        have cG := fun w => seg_at x true (by omega) (Jd_seg J hkp hk8) ⟨x.toArray⟩ rfl w
        have cP := fun w => path_at ([47] ++ x ++ [47] ++ y) true (by simp; omega) (Jd_path J hkp hk8 hy) ((((⟨#[47]⟩ : ByteArray) ++ ⟨x.toArray⟩) ++ ⟨#[47]⟩) ++ ⟨y.toArray⟩) (by rw [← cat_eq ([47] ++ x ++ [47]) y, ← cat_eq ([47] ++ x) [47], ← cat_eq [47] x]) w
        clear J hj hkp hkl hk8 hy hlen Hz Hr
        go_wp2_with fail
        refine (cS _ HM).mono ?_
        rintro e wk ⟨rfl, hbk⟩
        replace HM := HM.later hbk
        replace HB := chain HB hbk
        clear hbk
        go_wp2_with fail
        refine (cK _ HM).mono ?_
        rintro e wk ⟨rfl, hbk⟩
        replace HM := HM.later hbk
        replace HB := chain HB hbk
        clear hbk
        go_wp2_with fail
        refine (cK0 _ HM).mono ?_
        rintro e wk ⟨rfl, hbk⟩
        replace HM := HM.later hbk
        replace HB := chain HB hbk
        clear hbk
        go_wp2_with fail
        refine (cS0 _ HM).mono ?_
        rintro e wk ⟨rfl, hbk⟩
        replace HM := HM.later hbk
        replace HB := chain HB hbk
        clear hbk
        go_wp2_with fail
        refine (cL _).mono ?_
        rintro e wk ⟨rfl, hbk⟩
        replace HM := HM.later hbk
        replace HB := chain HB hbk
        clear hbk
        go_wp2_with fail
        refine (cG _).mono ?_
        rintro e wk ⟨rfl, hbk⟩
        replace HM := HM.later hbk
        replace HB := chain HB hbk
        clear hbk
        go_wp2_with fail
        refine (cP _).mono ?_
        rintro e w' ⟨rfl, rfl⟩
        go_wp2
        go_ret
        exact ⟨rfl, HB⟩
    · have hlt' : ¬ (k : Int) < len := by omega
      go_wp2_with fail
      by_cases hl0 : len = 0
      · have e0 : ((len : Int) == 0) = true := beq_iff_eq.2 (by omega)
        obtain rfl : x = [] := hj.out.2.1 (by omega)
        refine (word_any n _).mono ?_
        rintro e wk ⟨y, hy, rfl, hbk⟩
        have HB := chain hB hbk
        have HM := hm.later HB
        have hyl : (y.length : Int) ≤ 5 := by have := hy.2.1; omega
        have hyn : y.length ≤ 5 := hy.2.1
        clear hbk
        have cS := fun w hm => sub_at [] false (by simp) sub_nil ⟨#[]⟩ rfl w hm
        have cK := fun w hm => key_at y true (by omega) (plain_key hy) ⟨y.toArray⟩ rfl w hm
        have cK0 := fun w hm => key_at ([47] ++ y) false (by simp; omega) key_slash ((⟨#[47]⟩ : ByteArray) ++ ⟨y.toArray⟩) (cat_eq [47] y) w hm
        clear hj hkl hk8 hy hlen Hz Hr
        go_wp2_with fail
        refine (cS _ HM).mono ?_
        rintro e wk ⟨rfl, hbk⟩
        replace HM := HM.later hbk
        replace HB := chain HB hbk
        clear hbk
        go_wp2_with fail
        refine (cK _ HM).mono ?_
        rintro e wk ⟨rfl, hbk⟩
        replace HM := HM.later hbk
        replace HB := chain HB hbk
        clear hbk
        go_wp2_with fail
        refine (cK0 _ HM).mono ?_
        rintro e wk ⟨rfl, hbk⟩
        replace HM := HM.later hbk
        replace HB := chain HB hbk
        clear hbk
        go_wp2
        go_ret
        exact ⟨rfl, HB⟩
      · have e0 : ((len : Int) == 0) = false := beq_eq_false_iff_ne.2 (by omega)
        have hkp : 0 < k := by omega
        refine (word_any n _).mono ?_
        rintro e wk ⟨y, hy, rfl, hbk⟩
        have HB := chain hB hbk
        have HM := hm.later HB
        have hyl : (y.length : Int) ≤ 5 := by have := hy.2.1; omega
        have hyn : y.length ≤ 5 := hy.2.1
        clear hbk
        have J := hj.out
        have cS := fun w hm => sub_at x true (by omega) (Jd_sub J hkp hk8) ⟨x.toArray⟩ rfl w hm
        have cK := fun w hm => key_at (x ++ [47] ++ y) true (by simp; omega) (Jd_key J hkp hk8 hy) (((⟨x.toArray⟩ : ByteArray) ++ ⟨#[47]⟩) ++ ⟨y.toArray⟩) (by rw [← cat_eq (x ++ [47]) y, ← cat_eq x [47]]) w hm
        have cK0 := fun w hm => key_at (x ++ [47]) false (by simp; omega) (Jd_key0 J hkp) ((⟨x.toArray⟩ : ByteArray) ++ ⟨#[47]⟩) (cat_eq x [47]) w hm
        have cS0 := fun w hm => sub_at (x ++ [46]) false (by simp; omega) Jd_sub0 ((⟨x.toArray⟩ : ByteArray) ++ ⟨#[46]⟩) (cat_eq x [46]) w hm
        have cL := fun w => lab_at (x ++ [46, 120]) false (by simp; omega) Jd_lab0 ((⟨x.toArray⟩ : ByteArray) ++ ⟨#[46, 120]⟩) (cat_eq x [46, 120]) w
        have cG := fun w => seg_at x true (by omega) (Jd_seg J hkp hk8) ⟨x.toArray⟩ rfl w
        have cP := fun w => path_at ([47] ++ x ++ [47] ++ y) true (by simp; omega) (Jd_path J hkp hk8 hy) ((((⟨#[47]⟩ : ByteArray) ++ ⟨x.toArray⟩) ++ ⟨#[47]⟩) ++ ⟨y.toArray⟩) (by rw [← cat_eq ([47] ++ x ++ [47]) y, ← cat_eq ([47] ++ x) [47], ← cat_eq [47] x]) w
        clear J hj hkp hkl hk8 hy hlen Hz Hr
        go_wp2_with fail
        refine (cS _ HM).mono ?_
        rintro e wk ⟨rfl, hbk⟩
        replace HM := HM.later hbk
        replace HB := chain HB hbk
        clear hbk
        go_wp2_with fail
        refine (cK _ HM).mono ?_
        rintro e wk ⟨rfl, hbk⟩
        replace HM := HM.later hbk
        replace HB := chain HB hbk
        clear hbk
        go_wp2_with fail
        refine (cK0 _ HM).mono ?_
        rintro e wk ⟨rfl, hbk⟩
        replace HM := HM.later hbk
        replace HB := chain HB hbk
        clear hbk
        go_wp2_with fail
        refine (cS0 _ HM).mono ?_
        rintro e wk ⟨rfl, hbk⟩
        replace HM := HM.later hbk
        replace HB := chain HB hbk
        clear hbk
        go_wp2_with fail
        refine (cL _).mono ?_
        rintro e wk ⟨rfl, hbk⟩
        replace HM := HM.later hbk
        replace HB := chain HB hbk
        clear hbk
        go_wp2_with fail
        refine (cG _).mono ?_
        rintro e wk ⟨rfl, hbk⟩
        replace HM := HM.later hbk
        replace HB := chain HB hbk
        clear hbk
        go_wp2_with fail
        refine (cP _).mono ?_
        rintro e w' ⟨rfl, rfl⟩
        go_wp2
        go_ret
        exact ⟨rfl, HB⟩
end Go.Proofs.YtdiighgnlckllaaDoor.nam
