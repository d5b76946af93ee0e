/- Layer 2: the walk of DigitsLong. -/
import Derived.Test.YthnafenkpcnlbaaDigTextsLaw
namespace Go.Proofs.Ythnafenkpcnlbaa.dig
open Go.RowKit

/-- So many digits of one kind, with a minus ahead or not. -/
def many (m : Bool) (n k : Nat) : List UInt8 := if m then 45 :: List.replicate n (dig1 k) else List.replicate n (dig1 k)
def wantE (m : Bool) (n k : Nat) : Int := if k = 0 ∧ (1 < n ∨ m = true) then 10 else if 19 < n ∨ (n = 19 ∧ k = 9) then 16 else 0
theorem long_all : ∀ (m : Bool) (n : Fin 30) (k : Fin 10), pE (many m (n.val + 1) k.val) = wantE m (n.val + 1) k.val := by decide +kernel
theorem long_E (m : Bool) (n k : Nat) (h1 : 1 ≤ n) (h2 : n ≤ 30) (h3 : k ≤ 9) : pE (many m n k) = wantE m n k := by
  have := long_all m ⟨n - 1, by omega⟩ ⟨k, by omega⟩
  simp only [show n - 1 + 1 = n by omega] at this
  exact this
theorem conv_k (w1 : World) (k : Nat) : (convert 32 9 (.slice (some ⟨w1.heap.size, 0, none⟩) 1 1)).run Try.prog (w1.alloc (.cells #[.int .u8 (48 + (k : Int))] 5)) = .ok (.string ⟨#[dig1 k]⟩) (w1.alloc (.cells #[.int .u8 (48 + (k : Int))] 5)) := by
  refine (conv_new w1 [48 + (k : Int)] 1 1 rfl).trans ?_
  congr 2
theorem snoc_eq (c : UInt8) (j : Nat) : Value.string ((⟨(List.replicate j c).toArray⟩ : ByteArray) ++ ⟨#[c]⟩) = .string ⟨(List.replicate (j + 1) c).toArray⟩ := by
  congr 1
  apply ByteArray.ext
  rw [ByteArray.data_append, List.replicate_succ']
  apply Array.toList_inj.1
  simp
theorem many_size (m : Bool) (n k : Nat) (h : n ≤ 30) : (⟨(many m n k).toArray⟩ : ByteArray).size ≤ maxLen := by
  show (many m n k).toArray.size ≤ maxLen
  unfold many maxLen; split <;> simp <;> omega
theorem tmod_bd (x : Int) (b : Int) (hb : 0 < b) : -b < x.tmod b ∧ x.tmod b < b := by
  have h1 := Int.lt_tmod_of_pos x hb
  have h2 := Int.tmod_lt_of_pos x hb
  exact ⟨h1, h2⟩

set_option maxHeartbeats 1000000 in
theorem long_walk (d q : Int) (m : Bool) (_hd : inI d) (_hq : inI q) (w : World) :
    Calls Try.prog 9 #[.int .i64 d, .int .i64 q, .bool m] w fun e w' => e = .returned (.bool true) ∧ Below w.heap.size w w' := by
  have b1 := tmod_bd d 10 (by omega)
  have b2 := tmod_bd q 30 (by omega)
  go_enter Try.func9, Try.ntmps9
  go_wp2_with fail
  refine (awake_any _).mono ?_
  rintro e w' ⟨rfl, rfl⟩
  obtain ⟨k, hk⟩ : ∃ k : Nat, (d.tmod 10 + 10) % 10 = (k : Int) := ⟨((d.tmod 10 + 10) % 10).toNat, by omega⟩
  obtain ⟨n, hn⟩ : ∃ n : Nat, 1 + q.tmod 30 % 30 = (n : Int) := ⟨(1 + q.tmod 30 % 30).toNat, by omega⟩
  have hk9 : k ≤ 9 := by omega
  have hn1 : 1 ≤ n := by omega
  have hn30 : n ≤ 30 := by omega
  have Hk := Lib.hid hk
  have Hn := Lib.hid hn
  clear hk hn
  go_wp2
  rw [Hk.out, Hn.out]
  clear b1 b2
  go_loopw [10, 11] (fun v10 v11 wr => ∃ j : Nat, j ≤ n ∧ v11 = .int .i64 j ∧ v10 = .string ⟨(List.replicate j (dig1 k)).toArray⟩ ∧ Below w.heap.size w wr) (fun _ v _ => n - (intOf v).toNat)
  case atStart => exact ⟨0, by omega, rfl, rfl, Below.refl _ _⟩
  case round =>
    obtain ⟨j, hj, rfl, rfl, hB⟩ := hrel
    by_cases hlt : j < n
    · have hcv := conv_k wr k
      go_wp2
      go_roundw
      case measure => simp [intOf]; omega
      case rel => exact ⟨j + 1, by omega, by go_num, snoc_eq _ _, hB.alloc hB.size _⟩
    · obtain rfl : j = n := by omega
      have Hs := Lib.hid (many_size m j k hn30)
      have He := Lib.hid (long_E m j k hn1 hn30 hk9)
      have Hst := Lib.hid (back_str ⟨(many m j k).toArray⟩)
      cases m with
      | true =>
        have Hc := Lib.hid (show Value.string ((⟨#[45]⟩ : ByteArray) ++ ⟨Array.replicate j (dig1 k)⟩) = .string ⟨(many true j k).toArray⟩ from by rw [← List.toArray_replicate]; exact cat_eq 45 (List.replicate j (dig1 k)))
        go_wp2_with fail
        rw [Hc.out]
        refine (Parse_any _ Hs.out _).mono ?_
        rintro e w1 ⟨rfl, rfl⟩
        rw [show (⟨(many true j k).toArray⟩ : ByteArray).data.toList = many true j k from rfl]
        by_cases k0 : k = 0
        · by_cases n1 : 1 < j
          · have g1 : (1 : Int) < (j : Int) := by omega
            have Hw := Lib.hid (show pE (many true j k) = 10 from He.out.trans (by unfold wantE; rw [if_pos ⟨k0, .inl n1⟩]))
            have g0 : ((k : Int) == 0) = true := by simp; omega
            try clear n2
            clear k0
            rw [Hw.out]
            go_wp2
            go_ret
            exact ⟨rfl, hB⟩
          · have g1 : ¬ (1 : Int) < (j : Int) := by omega
            have Hw := Lib.hid (show pE (many true j k) = 10 from He.out.trans (by unfold wantE; rw [if_pos ⟨k0, .inr rfl⟩]))
            have g0 : ((k : Int) == 0) = true := by simp; omega
            try clear n2
            clear k0
            rw [Hw.out]
            go_wp2
            go_ret
            exact ⟨rfl, hB⟩
        · by_cases n1 : 19 < j
          · have g2 : (19 : Int) < (j : Int) := by omega
            have Hw := Lib.hid (show pE (many true j k) = 16 from He.out.trans (by unfold wantE; rw [if_neg (by omega), if_pos (by omega)]))
            have g0 : ((k : Int) == 0) = false := by simp; omega
            try clear n2
            clear k0
            rw [Hw.out]
            go_wp2
            go_ret
            exact ⟨rfl, hB⟩
          · have g2 : ¬ (19 : Int) < (j : Int) := by omega
            by_cases n2 : j = 19
            · have g3 : ((j : Int) == 19) = true := by simp; omega
              by_cases k9 : k = 9
              · have g4 : ((k : Int) == 9) = true := by simp; omega
                have Hw := Lib.hid (show pE (many true j k) = 16 from He.out.trans (by unfold wantE; rw [if_neg (by omega), if_pos (by omega)]))
                have g0 : ((k : Int) == 0) = false := by simp; omega
                try clear n2
                clear k0
                rw [Hw.out]
                go_wp2
                go_ret
                exact ⟨rfl, hB⟩
              · have g4 : ((k : Int) == 9) = false := by simp; omega
                have Hw := Lib.hid (show pE (many true j k) = 0 from He.out.trans (by unfold wantE; rw [if_neg (by omega), if_neg (by omega)]))
                have g0 : ((k : Int) == 0) = false := by simp; omega
                try clear n2
                clear k0
                rw [Hw.out]
                have Hb := Lib.hid (Hst.out Hw.out)
                go_wp2_with fail
                refine (text_any _ (pV_in _) _).mono ?_
                rintro e w2 ⟨rfl, c2⟩
                rw [show (⟨(txt (pV (many true j k))).toArray⟩ : ByteArray) = ⟨(many true j k).toArray⟩ from Hb.out]
                go_wp2
                go_ret
                exact ⟨rfl, hB.trans (c2.mono hB.size)⟩
            · have g3 : ((j : Int) == 19) = false := by simp; omega
              have Hw := Lib.hid (show pE (many true j k) = 0 from He.out.trans (by unfold wantE; rw [if_neg (by omega), if_neg (by omega)]))
              have g0 : ((k : Int) == 0) = false := by simp; omega
              try clear n2
              clear k0
              rw [Hw.out]
              have Hb := Lib.hid (Hst.out Hw.out)
              go_wp2_with fail
              refine (text_any _ (pV_in _) _).mono ?_
              rintro e w2 ⟨rfl, c2⟩
              rw [show (⟨(txt (pV (many true j k))).toArray⟩ : ByteArray) = ⟨(many true j k).toArray⟩ from Hb.out]
              go_wp2
              go_ret
              exact ⟨rfl, hB.trans (c2.mono hB.size)⟩
      | false =>
        have Hc := Lib.hid (show Value.string ⟨Array.replicate j (dig1 k)⟩ = .string ⟨(many false j k).toArray⟩ from by rw [← List.toArray_replicate]; rfl)
        go_wp2_with fail
        rw [Hc.out]
        refine (Parse_any _ Hs.out _).mono ?_
        rintro e w1 ⟨rfl, rfl⟩
        rw [show (⟨(many false j k).toArray⟩ : ByteArray).data.toList = many false j k from rfl]
        by_cases k0 : k = 0
        · by_cases n1 : 1 < j
          · have g1 : (1 : Int) < (j : Int) := by omega
            have Hw := Lib.hid (show pE (many false j k) = 10 from He.out.trans (by unfold wantE; rw [if_pos ⟨k0, .inl n1⟩]))
            have g0 : ((k : Int) == 0) = true := by simp; omega
            try clear n2
            clear k0
            rw [Hw.out]
            go_wp2
            go_ret
            exact ⟨rfl, hB⟩
          · have g1 : ¬ (1 : Int) < (j : Int) := by omega
            have g2 : ¬ (19 : Int) < (j : Int) := by omega
            have g3 : ((j : Int) == 19) = false := by simp; omega
            have Hw := Lib.hid (show pE (many false j k) = 0 from He.out.trans (by unfold wantE; rw [if_neg (by simp; omega), if_neg (by omega)]))
            have g0 : ((k : Int) == 0) = true := by simp; omega
            try clear n2
            clear k0
            rw [Hw.out]
            have Hb := Lib.hid (Hst.out Hw.out)
            go_wp2_with fail
            refine (text_any _ (pV_in _) _).mono ?_
            rintro e w2 ⟨rfl, c2⟩
            rw [show (⟨(txt (pV (many false j k))).toArray⟩ : ByteArray) = ⟨(many false j k).toArray⟩ from Hb.out]
            go_wp2
            go_ret
            exact ⟨rfl, hB.trans (c2.mono hB.size)⟩
        · by_cases n1 : 19 < j
          · have g2 : (19 : Int) < (j : Int) := by omega
            have Hw := Lib.hid (show pE (many false j k) = 16 from He.out.trans (by unfold wantE; rw [if_neg (by omega), if_pos (by omega)]))
            have g0 : ((k : Int) == 0) = false := by simp; omega
            try clear n2
            clear k0
            rw [Hw.out]
            go_wp2
            go_ret
            exact ⟨rfl, hB⟩
          · have g2 : ¬ (19 : Int) < (j : Int) := by omega
            by_cases n2 : j = 19
            · have g3 : ((j : Int) == 19) = true := by simp; omega
              by_cases k9 : k = 9
              · have g4 : ((k : Int) == 9) = true := by simp; omega
                have Hw := Lib.hid (show pE (many false j k) = 16 from He.out.trans (by unfold wantE; rw [if_neg (by omega), if_pos (by omega)]))
                have g0 : ((k : Int) == 0) = false := by simp; omega
                try clear n2
                clear k0
                rw [Hw.out]
                go_wp2
                go_ret
                exact ⟨rfl, hB⟩
              · have g4 : ((k : Int) == 9) = false := by simp; omega
                have Hw := Lib.hid (show pE (many false j k) = 0 from He.out.trans (by unfold wantE; rw [if_neg (by omega), if_neg (by omega)]))
                have g0 : ((k : Int) == 0) = false := by simp; omega
                try clear n2
                clear k0
                rw [Hw.out]
                have Hb := Lib.hid (Hst.out Hw.out)
                go_wp2_with fail
                refine (text_any _ (pV_in _) _).mono ?_
                rintro e w2 ⟨rfl, c2⟩
                rw [show (⟨(txt (pV (many false j k))).toArray⟩ : ByteArray) = ⟨(many false j k).toArray⟩ from Hb.out]
                go_wp2
                go_ret
                exact ⟨rfl, hB.trans (c2.mono hB.size)⟩
            · have g3 : ((j : Int) == 19) = false := by simp; omega
              have Hw := Lib.hid (show pE (many false j k) = 0 from He.out.trans (by unfold wantE; rw [if_neg (by omega), if_neg (by omega)]))
              have g0 : ((k : Int) == 0) = false := by simp; omega
              try clear n2
              clear k0
              rw [Hw.out]
              have Hb := Lib.hid (Hst.out Hw.out)
              go_wp2_with fail
              refine (text_any _ (pV_in _) _).mono ?_
              rintro e w2 ⟨rfl, c2⟩
              rw [show (⟨(txt (pV (many false j k))).toArray⟩ : ByteArray) = ⟨(many false j k).toArray⟩ from Hb.out]
              go_wp2
              go_ret
              exact ⟨rfl, hB.trans (c2.mono hB.size)⟩
end Go.Proofs.Ythnafenkpcnlbaa.dig
