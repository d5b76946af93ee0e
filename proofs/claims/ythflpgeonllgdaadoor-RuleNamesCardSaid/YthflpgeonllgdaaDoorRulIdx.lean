/- Layer 8: the library's IndexFunc, ContainsFunc, Index and Contains at rows of texts. -/
import Derived.Test.YthflpgeonllgdaaDoorRulAll
namespace Go.Proofs.YthflpgeonllgdaaDoor.rul
open Go.RowKit Go.Proofs.YthflpgeonllgdaaDoor.rep Go.Proofs.YthflpgeonllgdaaDoor.lab

set_option maxHeartbeats 1000000 in
theorem idxT_any (B : Nat) (a : Option Addr) (c : Nat) (l : List ByteArray) (hl : l.length ≤ 9223372036854775807) (f : FuncId) (cap : Array Value) (p : ByteArray → Bool) (w : World) (hr : RowIn (text B) w a l) (hp : AskR (TxV B) f cap p w) :
    Calls Tryd.prog 78 #[.slice a l.length c, .func (.func f) #[] cap] w fun e w' => e = .returned (.int .i64 (idxB p l)) ∧ Below w.heap.size w w' := by
  have Hr := Lib.hid hr
  have Hp := Lib.hid hp
  have ef := hp.1
  clear hr hp
  go_enter Tryd.func78, Tryd.ntmps78
  go_wp2
  go_loopw [8] (fun v wr => ∃ k : Nat, k ≤ l.length ∧ v = .int .i64 k ∧ Hid (∀ j, j < k → ∀ (hj : j < l.length), p l[j] = false) ∧ Below w.heap.size w wr) (fun v _ => l.length - (intOf v).toNat)
  case atStart => exact ⟨0, by omega, rfl, fun j hj => by omega, Below.refl _ _⟩
  case round =>
    obtain ⟨k, hk, rfl, Ha, hbr⟩ := hrel
    by_cases hlt : k < l.length
    · obtain ⟨b, off, rfl, hbl, cs, hat, hcell⟩ := (Hr.out.later hbr).get hlt
      all_goals
        obtain ⟨hcs, hx⟩ := hat
        subst hcs
        have c0 : wr.cell? ⟨b, off + k, none⟩ = some (.string l[k]) := by have := hcell 0 _ rfl; simpa [text] using this
        clear hcell
        have cp := Hp.out.2 wr (.string l[k]) l[k] ⟨rfl, hx⟩ hbr
        cases hp1 : p l[k] with
        | true =>
          have Hn := Lib.hid (idx_at (p := p) hlt hp1 fun j hj hjk => Ha.out j hjk hj)
          rw [hp1] at cp
          clear hp1 Ha
          go_wp2_with fail
          refine cp.mono ?_
          rintro e w2 ⟨rfl, hb2⟩
          go_wp2
          go_ret
          exact ⟨ret_int Hn.out.symm, chain hbr hb2⟩
        | false =>
          have Hn := Lib.hid (show ∀ j, j < k + 1 → ∀ (hj : j < l.length), p l[j] = false from fun j hjk hj => by
            by_cases e : j = k
            · subst e; exact hp1
            · exact Ha.out j (by omega) hj)
          rw [hp1] at cp
          clear hp1 Ha
          go_wp2_with fail
          refine cp.mono ?_
          rintro e w2 ⟨rfl, hb2⟩
          have hbr2 := chain hbr hb2
          go_wp2
          go_roundw
          case rel => exact ⟨k + 1, by omega, by go_num, Hn, hbr2⟩
          case measure => simp [intOf]; omega
    · have Hn := Lib.hid (idx_none (p := p) (l := l) fun j hj => Ha.out j (by omega) hj)
      clear Ha
      go_wp2
      go_ret
      exact ⟨ret_int Hn.out.symm, hbr⟩
theorem conT_any (B : Nat) (a : Option Addr) (c : Nat) (l : List ByteArray) (hl : l.length ≤ 9223372036854775807) (f : FuncId) (cap : Array Value) (p : ByteArray → Bool) (w : World) (hr : RowIn (text B) w a l) (hp : AskR (TxV B) f cap p w) :
    Calls Tryd.prog 51 #[.slice a l.length c, .func (.func f) #[] cap] w fun e w' => e = .returned (.bool (l.any p)) ∧ Below w.heap.size w w' := by
  have hi := fun w => idxT_any B a c l hl f cap p w
  have H := Lib.hid (idx_ge p l)
  obtain ⟨h1, h2⟩ := idx_bd p l
  generalize idxB p l = z at *
  generalize l.any p = y at *
  go_enter Tryd.func51, Tryd.ntmps51
  go_wp2_with fail
  refine (hi _ hr hp).mono ?_
  rintro e w1 ⟨rfl, hb1⟩
  go_wp2
  go_ret
  exact ⟨ret_bool H.out, hb1⟩


/-- The words among which the library looks. -/
def isT (v : ByteArray) (x : ByteArray) : Bool := v.toList == x.toList
theorem idxV_any (B : Nat) (a : Option Addr) (c : Nat) (l : List ByteArray) (hl : l.length ≤ 9223372036854775807) (v : ByteArray) (w : World) (hr : RowIn (text B) w a l) :
    Calls Tryd.prog 86 #[.slice a l.length c, .string v] w fun e w' => e = .returned (.int .i64 (idxB (isT v) l)) ∧ w = w' := by
  have Hr := Lib.hid hr
  clear hr
  go_enter Tryd.func86, Tryd.ntmps86
  go_wp2
  go_loop [8] (fun u => ∃ k : Nat, k ≤ l.length ∧ u = .int .i64 k ∧ Hid (∀ j, j < k → ∀ (hj : j < l.length), isT v l[j] = false)) (fun u => l.length - (intOf u).toNat)
  case atStart => exact ⟨0, by omega, rfl, fun j hj => by omega⟩
  case round =>
    obtain ⟨k, hk, rfl, Ha⟩ := hrel
    by_cases hlt : k < l.length
    · obtain ⟨b, off, rfl, hbl, cs, hat, hcell⟩ := Hr.out.get hlt
      obtain ⟨hcs, hx⟩ := hat
      subst hcs
      have c0 : w.cell? ⟨b, off + k, none⟩ = some (.string l[k]) := by have := hcell 0 _ rfl; simpa [text] using this
      clear hcell
      cases hp1 : (v.toList == l[k].toList) with
      | true =>
        have Hn := Lib.hid (idx_at (p := isT v) hlt hp1 fun j hj hjk => Ha.out j hjk hj)
        clear Ha
        go_wp2
        go_ret
        exact ⟨ret_int Hn.out.symm, rfl⟩
      | false =>
        have Hn := Lib.hid (show ∀ j, j < k + 1 → ∀ (hj : j < l.length), isT v l[j] = false from fun j hjk hj => by
          by_cases e : j = k
          · subst e; exact hp1
          · exact Ha.out j (by omega) hj)
        clear Ha
        go_wp2
        go_round
        case rel => exact ⟨k + 1, by omega, by go_num, Hn⟩
        case measure => simp [intOf]; omega
    · have Hn := Lib.hid (idx_none (p := isT v) (l := l) fun j hj => Ha.out j (by omega) hj)
      clear Ha
      go_wp2
      go_ret
      exact ⟨ret_int Hn.out.symm, rfl⟩
theorem conV_any (B : Nat) (a : Option Addr) (c : Nat) (l : List ByteArray) (hl : l.length ≤ 9223372036854775807) (v : ByteArray) (w : World) (hr : RowIn (text B) w a l) :
    Calls Tryd.prog 75 #[.slice a l.length c, .string v] w fun e w' => e = .returned (.bool (l.any (isT v))) ∧ w = w' := by
  have hi := fun w hr => idxV_any B a c l hl v w hr
  have H := Lib.hid (idx_ge (isT v) l)
  obtain ⟨h1, h2⟩ := idx_bd (isT v) l
  generalize idxB (isT v) l = z at *
  generalize l.any (isT v) = y at *
  go_enter Tryd.func75, Tryd.ntmps75
  go_wp2_with fail
  refine (hi _ hr).mono ?_
  rintro e w1 ⟨rfl, rfl⟩
  go_wp2
  go_ret
  exact ⟨ret_bool H.out, rfl⟩
end Go.Proofs.YthflpgeonllgdaaDoor.rul
