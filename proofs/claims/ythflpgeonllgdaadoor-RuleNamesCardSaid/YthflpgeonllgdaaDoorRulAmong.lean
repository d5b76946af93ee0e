/- Layer 8: of the document: Among, either. -/
import Derived.Test.YthflpgeonllgdaaDoorLabD
import Derived.Deep.Strs
namespace Go.Proofs.YthflpgeonllgdaaDoor.rul
open Go.RowKit Go.Proofs.YthflpgeonllgdaaDoor.rep Go.Proofs.YthflpgeonllgdaaDoor.lab

set_option maxHeartbeats 1000000 in
theorem rAmong_any (B : Nat) (a : Option Addr) (c : Nat) (l : List ByteArray) (hl : l.length ≤ 140737488355328) (v : ByteArray) (w : World) (hr : RowIn (text B) w a l) :
    Calls Tryd.prog 47 #[.slice a l.length c, .string v] w fun e w' => e = .returned (.bool (among l v)) ∧ w = w' := by
  have Hr := Lib.hid hr
  clear hr
  go_enter Tryd.func47, Tryd.ntmps47
  go_wp2
  go_loop [5] (fun u => ∃ k : Nat, k ≤ l.length ∧ u = .int .i64 k ∧ Hid (∀ j, j < k → ∀ (hj : j < l.length), (l[j].toList == v.toList) = false)) (fun u => l.length - (intOf u).toNat)
  case atStart => exact ⟨0, by omega, rfl, fun j hj => by omega⟩
  case round =>
    obtain ⟨k, hk, rfl, Ha⟩ := hrel
    by_cases hlt : k < l.length
    · obtain ⟨b, off, rfl, hbl, cs, hat, hcell⟩ := Hr.out.get hlt
      obtain ⟨hcs, hx⟩ := hat
      subst hcs
      have c0 : w.cell? ⟨b, off + k, none⟩ = some (.string l[k]) := by have := hcell 0 _ rfl; simpa [text] using this
      clear hcell
      cases hp1 : (l[k].toList == v.toList) with
      | true =>
        have Hn : Hid (among l v = true) := List.any_eq_true.2 ⟨l[k], List.getElem_mem hlt, hp1⟩
        clear Ha
        go_wp2
        go_ret
        exact ⟨ret_bool Hn.out.symm, rfl⟩
      | false =>
        have Hn := Lib.hid (show ∀ j, j < k + 1 → ∀ (hj : j < l.length), (l[j].toList == v.toList) = false from fun j hjk hj => by
          by_cases e : j = k
          · subst e; exact hp1
          · exact Ha.out j (by omega) hj)
        clear Ha
        go_wp2
        go_round
        case rel => exact ⟨k + 1, by omega, by go_num, Hn⟩
        case measure => simp [intOf]; omega
    · have Hn : Hid (among l v = false) := any_false (p := fun x : ByteArray => x.toList == v.toList) fun j hj => Ha.out j (by omega) hj
      clear Ha
      go_wp2
      go_ret
      exact ⟨ret_bool Hn.out.symm, rfl⟩
def starT : ByteArray := ⟨#[42]⟩
def eitherB (l : List ByteArray) (s : ByteArray) : Bool := among l s || among l starT
theorem reither_any (B : Nat) (a : Option Addr) (c : Nat) (l : List ByteArray) (hl : l.length ≤ 140737488355328) (v : ByteArray) (w : World) (hr : RowIn (text B) w a l) :
    Calls Tryd.prog 46 #[.slice a l.length c, .string v] w fun e w' => e = .returned (.bool (eitherB l v)) ∧ w = w' := by
  have c1 := fun w hr => rAmong_any B a c l hl v w hr
  have c2 := fun w hr => rAmong_any B a c l hl starT w hr
  have Hr := Lib.hid hr
  clear hr
  have H := Lib.hid (show eitherB l v = (among l v || among l starT) from rfl)
  generalize among l v = p at *
  generalize among l starT = q at *
  unfold starT at c2
  go_enter Tryd.func46, Tryd.ntmps46
  go_wp2_with fail
  refine (c1 _ Hr.out).mono ?_
  rintro e w1 ⟨rfl, rfl⟩
  go_wp2_with fail
  refine (c2 _ Hr.out).mono ?_
  rintro e w1 ⟨rfl, rfl⟩
  cases p with
  | true =>
    go_wp2
    go_ret
    exact ⟨ret_bool (by rw [H.out]; rfl), rfl⟩
  | false =>
    go_wp2
    go_ret
    exact ⟨ret_bool (by rw [H.out]; rfl), rfl⟩
end Go.Proofs.YthflpgeonllgdaaDoor.rul
