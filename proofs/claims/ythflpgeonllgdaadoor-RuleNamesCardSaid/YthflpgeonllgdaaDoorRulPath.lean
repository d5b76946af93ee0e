/- Layer 8: of the document: Path. -/
import Derived.Test.YthflpgeonllgdaaDoorRulRes
namespace Go.Proofs.YthflpgeonllgdaaDoor.rul
open Go.RowKit Go.Proofs.YthflpgeonllgdaaDoor.rep Go.Proofs.YthflpgeonllgdaaDoor.lab

def tailAt (p s : ByteArray) : Bool := if h : 0 < s.size then ((s[s.size - 1].toNat : Int) == 42) && decide (s.size - 1 ≤ p.size) && ((p.extract 0 (s.size - 1)).toList == (s.extract 0 (s.size - 1)).toList) else false
def pathAt (p s : ByteArray) : Bool := (s.toList == [42]) || (s.toList == p.toList) || tailAt p s
theorem rPath_any (B : Nat) (hB : B ≤ 140737488355328) (a : Option Addr) (c : Nat) (l : List ByteArray) (hl : l.length ≤ 140737488355328) (p : ByteArray) (_hp : p.size ≤ B) (w : World) (hr : RowIn (text B) w a l) :
    Calls Tryd.prog 21 #[.slice a l.length c, .string p] w fun e w' => e = .returned (.bool (l.any (pathAt p))) ∧ w = w' := by
  have Hr := Lib.hid hr
  clear hr
  go_enter Tryd.func21, Tryd.ntmps21
  go_wp2
  go_loop [5] (fun v => ∃ k : Nat, k ≤ l.length ∧ v = .int .i64 k ∧ Hid (∀ j, j < k → ∀ (hj : j < l.length), pathAt p l[j] = false)) (fun v => l.length - (intOf v).toNat)
  case atStart => exact ⟨0, by omega, rfl, fun j hj => by omega⟩
  case round =>
    obtain ⟨k, hk, rfl, Ha⟩ := hrel
    by_cases hlt : k < l.length
    · obtain ⟨b, off, rfl, hbl, cs, hat, hcell⟩ := Hr.out.get hlt
      obtain ⟨hcs, hx⟩ := hat
      subst hcs
      have c0 : w.cell? ⟨b, off + k, none⟩ = some (.string l[k]) := by have := hcell 0 _ rfl; simpa [text] using this
      clear hcell
      have Hit := Lib.hid (show pathAt p l[k] = true → l.any (pathAt p) = true from fun h => List.any_eq_true.2 ⟨l[k], List.getElem_mem hlt, h⟩)
      have Miss := Lib.hid (show pathAt p l[k] = false → ∀ j, j < k + 1 → ∀ (hj : j < l.length), pathAt p l[j] = false from fun h j hjk hj => by
        by_cases e : j = k
        · subst e; exact h
        · exact Ha.out j (by omega) hj)
      clear Ha
      generalize l[k] = s at *
      have D := Lib.hid (show pathAt p s = ((s.toList == [42]) || (s.toList == p.toList) || tailAt p s) from rfl)
      have T := Lib.hid (show tailAt p s = if h : 0 < s.size then ((s[s.size - 1].toNat : Int) == 42) && decide (s.size - 1 ≤ p.size) && ((p.extract 0 (s.size - 1)).toList == (s.extract 0 (s.size - 1)).toList) else false from rfl)
      cases e1 : (s.toList == [42]) with
      | true =>
        have H := Lib.hid (Hit.out (by rw [D.out, e1]; rfl))
        clear Hit Miss D T
        go_wp2
        go_ret
        exact ⟨ret_bool H.out.symm, rfl⟩
      | false =>
        cases e2 : (s.toList == p.toList) with
        | true =>
          have H := Lib.hid (Hit.out (by rw [D.out, e2, Bool.or_true]; rfl))
          clear Hit Miss D T
          go_wp2
          go_ret
          exact ⟨ret_bool H.out.symm, rfl⟩
        | false =>
          have D2 := Lib.hid (show pathAt p s = tailAt p s by rw [D.out, e1, e2]; rfl)
          by_cases e3 : 0 < s.size
          · have T2 := Lib.hid (show tailAt p s = (((s[s.size - 1].toNat : Int) == 42) && decide (s.size - 1 ≤ p.size) && ((p.extract 0 (s.size - 1)).toList == (s.extract 0 (s.size - 1)).toList)) by rw [T.out, dif_pos e3])
            cases e4 : ((s[s.size - 1].toNat : Int) == 42) with
            | false =>
              have H := Lib.hid (Miss.out (by rw [D2.out, T2.out, e4]; rfl))
              clear Hit Miss D T D2 T2
              go_wp2
              go_round
              case rel => exact ⟨k + 1, by omega, by go_num, H⟩
              case measure => simp [intOf]; omega
            | true =>
              by_cases e5 : s.size - 1 ≤ p.size
              · cases e6 : ((p.extract 0 (s.size - 1)).toList == (s.extract 0 (s.size - 1)).toList) with
                | true =>
                  have H := Lib.hid (Hit.out (by rw [D2.out, T2.out, e4, e6, decide_eq_true e5]; rfl))
                  clear Hit Miss D T D2 T2
                  go_wp2
                  go_ret
                  exact ⟨ret_bool H.out.symm, rfl⟩
                | false =>
                  have H := Lib.hid (Miss.out (by rw [D2.out, T2.out, e6, Bool.and_false]))
                  clear Hit Miss D T D2 T2
                  go_wp2
                  go_round
                  case rel => exact ⟨k + 1, by omega, by go_num, H⟩
                  case measure => simp [intOf]; omega
              · have H := Lib.hid (Miss.out (by rw [D2.out, T2.out, decide_eq_false e5, Bool.and_false]; rfl))
                clear Hit Miss D T D2 T2
                go_wp2
                go_round
                case rel => exact ⟨k + 1, by omega, by go_num, H⟩
                case measure => simp [intOf]; omega
          · have H := Lib.hid (Miss.out (by rw [D2.out, T.out, dif_neg e3]))
            clear Hit Miss D T D2
            go_wp2
            go_round
            case rel => exact ⟨k + 1, by omega, by go_num, H⟩
            case measure => simp [intOf]; omega
    · have Hn : Hid (l.any (pathAt p) = false) := any_false fun j hj => Ha.out j (by omega) hj
      clear Ha
      go_wp2
      go_ret
      exact ⟨ret_bool Hn.out.symm, rfl⟩
end Go.Proofs.YthflpgeonllgdaaDoor.rul
