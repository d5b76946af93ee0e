/- Layer 8: of the document: Resource, star. -/
import Derived.Test.YthflpgeonllgdaaDoorRulAmong
namespace Go.Proofs.YthflpgeonllgdaaDoor.rul
open Go.RowKit Go.Proofs.YthflpgeonllgdaaDoor.rep Go.Proofs.YthflpgeonllgdaaDoor.lab

def slash (a b : ByteArray) : ByteArray := a ++ ⟨#[47]⟩ ++ b
def resB (l : List ByteArray) (name part : ByteArray) : Bool := if part.toList.isEmpty = true then eitherB l name else eitherB l (slash name part) || among l ((⟨#[42, 47]⟩ : ByteArray) ++ part)
theorem rResource_any (B : Nat) (hB : B ≤ 140737488355328) (a : Option Addr) (c : Nat) (l : List ByteArray) (hl : l.length ≤ 140737488355328) (name part : ByteArray) (h1 : name.size ≤ B) (h2 : part.size ≤ B) (w : World) (hr : RowIn (text B) w a l) :
    Calls Tryd.prog 19 #[.slice a l.length c, .string name, .string part] w fun e w' => e = .returned (.bool (resB l name part)) ∧ w = w' := by
  have Hr := Lib.hid hr
  clear hr
  cases hp : part.toList.isEmpty with
  | true =>
    have H := Lib.hid (show resB l name part = eitherB l name by unfold resB; rw [if_pos hp])
    have c1 := fun w hr => reither_any B a c l hl name w hr
    go_enter Tryd.func19, Tryd.ntmps19
    go_wp2_with fail
    refine (c1 _ Hr.out).mono ?_
    rintro e w1 ⟨rfl, rfl⟩
    go_wp2
    go_ret
    exact ⟨ret_bool H.out.symm, rfl⟩
  | false =>
    have H := Lib.hid (show resB l name part = (eitherB l (name ++ ⟨#[47]⟩ ++ part) || among l ((⟨#[42, 47]⟩ : ByteArray) ++ part)) by unfold resB; rw [if_neg (by rw [hp]; decide)]; rfl)
    have c1 := fun w hr => reither_any B a c l hl (name ++ ⟨#[47]⟩ ++ part) w hr
    have c2 := fun w hr => rAmong_any B a c l hl ((⟨#[42, 47]⟩ : ByteArray) ++ part) w hr
    generalize eitherB l (name ++ ⟨#[47]⟩ ++ part) = p at *
    generalize among l ((⟨#[42, 47]⟩ : ByteArray) ++ part) = q at *
    go_enter Tryd.func19, Tryd.ntmps19
    go_wp2_with fail
    refine (c1 _ Hr.out).mono ?_
    rintro e w1 ⟨rfl, rfl⟩
    go_wp2_with fail
    refine (c2 _ Hr.out).mono ?_
    rintro e w1 ⟨rfl, rfl⟩
    cases p with
    | true =>
      go_wp2
      go_ret
      exact ⟨ret_bool (by rw [H.out]; rfl), rfl⟩
    | false =>
      go_wp2
      go_ret
      exact ⟨ret_bool (by rw [H.out]; rfl), rfl⟩

def hasStar (s : ByteArray) : Bool := s.data.toList.any (· == 42)
theorem byte_in {s : ByteArray} {k : Nat} (h : k < s.size) : s[k] ∈ s.data.toList := by
  rw [Array.mem_toList_iff]; exact Array.getElem_mem h
theorem star_hit {s : ByteArray} {k : Nat} (hlt : k < s.size) (h : ((s[k].toNat : Int) == 42) = true) : hasStar s = true := by
  refine List.any_eq_true.2 ⟨s[k], byte_in hlt, ?_⟩
  have h2 : (s[k].toNat : Int) = 42 := by simpa using h
  have h3 : s[k].toNat = 42 := by omega
  have h4 : s[k] = 42 := UInt8.toNat_inj.1 (h3.trans rfl)
  rw [h4]; rfl
theorem star_none {s : ByteArray} (h : ∀ i (hi : i < s.size), ((s[i].toNat : Int) == 42) = false) : hasStar s = false := by
  unfold hasStar
  rw [List.any_eq_false]
  intro x hx hx2
  obtain ⟨i, hi, rfl⟩ := List.getElem_of_mem hx
  have hx3 : s.data.toList[i] = 42 := by simpa using hx2
  have h2 := h i (by simpa using hi)
  have h4 : s[i]'(by simpa using hi) = 42 := by rw [← hx3]; simp [ByteArray.getElem_eq_getElem_data]
  rw [h4] at h2
  exact absurd h2 (by decide)
theorem rstar_any (s : ByteArray) (hs : s.size ≤ 140737488355328) (w : World) :
    Calls Tryd.prog 56 #[.string s] w fun e w' => e = .returned (.bool (hasStar s)) ∧ w = w' := by
  go_enter Tryd.func56, Tryd.ntmps56
  go_wp2
  go_loop [3] (fun v => ∃ k : Nat, k ≤ s.size ∧ v = .int .i64 k ∧ Hid (∀ i, i < k → ∀ hi : i < s.size, ((s[i].toNat : Int) == 42) = false)) (fun v => s.size - (intOf v).toNat)
  case atStart => exact ⟨0, by omega, rfl, fun i hi => by omega⟩
  case round =>
    obtain ⟨k, hk, rfl, Ha⟩ := hrel
    by_cases hlt : k < s.size
    · cases h1 : ((s[k].toNat : Int) == 42) with
      | true =>
        have Hn := Lib.hid (star_hit hlt h1)
        clear Ha
        go_wp2
        go_ret
        exact ⟨ret_bool Hn.out.symm, rfl⟩
      | false =>
        have Hn := Lib.hid (show ∀ i, i < k + 1 → ∀ hi : i < s.size, ((s[i].toNat : Int) == 42) = false from fun i hik hi => by
          by_cases e : i = k
          · subst e; exact h1
          · exact Ha.out i (by omega) hi)
        clear Ha
        go_wp2
        go_round
        case measure => simp [intOf]; omega
        case rel => exact ⟨k + 1, by omega, by go_num, Hn⟩
    · have Hn := Lib.hid (star_none fun i hi => Ha.out i (by omega) hi)
      clear Ha
      go_wp2
      go_ret
      exact ⟨ret_bool Hn.out.symm, rfl⟩
end Go.Proofs.YthflpgeonllgdaaDoor.rul
