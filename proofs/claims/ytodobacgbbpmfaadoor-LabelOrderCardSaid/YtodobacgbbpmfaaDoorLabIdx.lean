/- Layer 7: the library's IndexFunc and ContainsFunc, at rows of texts, of pairs and of wants. -/
import Derived.Test.YtodobacgbbpmfaaDoorLabD
namespace Go.Proofs.YtodobacgbbpmfaaDoor.lab
open Go.RowKit Go.Proofs.YtodobacgbbpmfaaDoor.rep

set_option maxHeartbeats 1000000 in
theorem idxT_any (B : Nat) (a : Option Addr) (c : Nat) (l : List ByteArray) (hl : l.length ≤ 9223372036854775807) (f : FuncId) (cap : Array Value) (p : ByteArray → Bool) (w : World) (hr : RowIn (text B) w a l) (hp : AskR (TxV B) f cap p w) :
    Calls Tryd.prog 64 #[.slice a l.length c, .func (.func f) #[] cap] w fun e w' => e = .returned (.int .i64 (idxB p l)) ∧ Below w.heap.size w w' := by
  have Hr := Lib.hid hr
  have Hp := Lib.hid hp
  have ef := hp.1
  clear hr hp
  go_enter Tryd.func64, Tryd.ntmps64
  go_wp2
  go_loopw [8] (fun v wr => ∃ k : Nat, k ≤ l.length ∧ v = .int .i64 k ∧ Hid (∀ j, j < k → ∀ (hj : j < l.length), p l[j] = false) ∧ Below w.heap.size w wr) (fun v _ => l.length - (intOf v).toNat)
  case atStart => exact ⟨0, by omega, rfl, fun j hj => by omega, Below.refl _ _⟩
  case round =>
    obtain ⟨k, hk, rfl, Ha, hbr⟩ := hrel
    by_cases hlt : k < l.length
    · obtain ⟨b, off, rfl, hbl, cs, hat, hcell⟩ := (Hr.out.later hbr).get hlt
      all_goals
        obtain ⟨hcs, hx⟩ := hat
        subst hcs
        have c0 : wr.cell? ⟨b, off + k, none⟩ = some (.string l[k]) := by have := hcell 0 _ rfl; simpa [text] using this
        clear hcell
        have cp := Hp.out.2 wr (.string l[k]) l[k] ⟨rfl, hx⟩ hbr
        cases hp1 : p l[k] with
        | true =>
          have Hn := Lib.hid (idx_at (p := p) hlt hp1 fun j hj hjk => Ha.out j hjk hj)
          rw [hp1] at cp
          clear hp1 Ha
          go_wp2_with fail
          refine cp.mono ?_
          rintro e w2 ⟨rfl, hb2⟩
          go_wp2
          go_ret
          exact ⟨ret_int Hn.out.symm, chain hbr hb2⟩
        | false =>
          have Hn := Lib.hid (show ∀ j, j < k + 1 → ∀ (hj : j < l.length), p l[j] = false from fun j hjk hj => by
            by_cases e : j = k
            · subst e; exact hp1
            · exact Ha.out j (by omega) hj)
          rw [hp1] at cp
          clear hp1 Ha
          go_wp2_with fail
          refine cp.mono ?_
          rintro e w2 ⟨rfl, hb2⟩
          have hbr2 := chain hbr hb2
          go_wp2
          go_roundw
          case rel => exact ⟨k + 1, by omega, by go_num, Hn, hbr2⟩
          case measure => simp [intOf]; omega
    · have Hn := Lib.hid (idx_none (p := p) (l := l) fun j hj => Ha.out j (by omega) hj)
      clear Ha
      go_wp2
      go_ret
      exact ⟨ret_int Hn.out.symm, hbr⟩
theorem conT_any (B : Nat) (a : Option Addr) (c : Nat) (l : List ByteArray) (hl : l.length ≤ 9223372036854775807) (f : FuncId) (cap : Array Value) (p : ByteArray → Bool) (w : World) (hr : RowIn (text B) w a l) (hp : AskR (TxV B) f cap p w) :
    Calls Tryd.prog 48 #[.slice a l.length c, .func (.func f) #[] cap] w fun e w' => e = .returned (.bool (l.any p)) ∧ Below w.heap.size w w' := by
  have hi := fun w => idxT_any B a c l hl f cap p w
  have H := Lib.hid (idx_ge p l)
  obtain ⟨h1, h2⟩ := idx_bd p l
  generalize idxB p l = z at *
  generalize l.any p = y at *
  go_enter Tryd.func48, Tryd.ntmps48
  go_wp2_with fail
  refine (hi _ hr hp).mono ?_
  rintro e w1 ⟨rfl, hb1⟩
  go_wp2
  go_ret
  exact ⟨ret_bool H.out, hb1⟩

set_option maxHeartbeats 1000000 in
theorem idxP_any (B : Nat) (a : Option Addr) (c : Nat) (l : List Pr) (hl : l.length ≤ 9223372036854775807) (f : FuncId) (cap : Array Value) (p : Pr → Bool) (w : World) (hr : RowIn (prR B) w a l) (hp : AskR (PrV B) f cap p w) :
    Calls Tryd.prog 23 #[.slice a l.length c, .func (.func f) #[] cap] w fun e w' => e = .returned (.int .i64 (idxB p l)) ∧ Below w.heap.size w w' := by
  have Hr := Lib.hid hr
  have Hp := Lib.hid hp
  have ef := hp.1
  clear hr hp
  go_enter Tryd.func23, Tryd.ntmps23
  go_wp2
  go_loopw [8] (fun v wr => ∃ k : Nat, k ≤ l.length ∧ v = .int .i64 k ∧ Hid (∀ j, j < k → ∀ (hj : j < l.length), p l[j] = false) ∧ Below w.heap.size w wr) (fun v _ => l.length - (intOf v).toNat)
  case atStart => exact ⟨0, by omega, rfl, fun j hj => by omega, Below.refl _ _⟩
  case round =>
    obtain ⟨k, hk, rfl, Ha, hbr⟩ := hrel
    by_cases hlt : k < l.length
    · obtain ⟨b, off, rfl, hbl, cs, hat, hcell⟩ := (Hr.out.later hbr).get hlt
      all_goals
        obtain ⟨hcs, hx⟩ := hat
        subst hcs
        have c0 : wr.cell? ⟨b, off + k * 2, none⟩ = some (.string l[k].key) := hcell 0 _ rfl
        have c1 : wr.cell? ⟨b, off + k * 2 + 1, none⟩ = some (.string l[k].value) := hcell 1 _ rfl
        clear hcell
        have cp := Hp.out.2 wr (.agg #[.string l[k].key, .string l[k].value]) l[k] ⟨rfl, hx⟩ hbr
        cases hp1 : p l[k] with
        | true =>
          have Hn := Lib.hid (idx_at (p := p) hlt hp1 fun j hj hjk => Ha.out j hjk hj)
          rw [hp1] at cp
          clear hp1 Ha
          go_wp2_with fail
          refine cp.mono ?_
          rintro e w2 ⟨rfl, hb2⟩
          go_wp2
          go_ret
          exact ⟨ret_int Hn.out.symm, chain hbr hb2⟩
        | false =>
          have Hn := Lib.hid (show ∀ j, j < k + 1 → ∀ (hj : j < l.length), p l[j] = false from fun j hjk hj => by
            by_cases e : j = k
            · subst e; exact hp1
            · exact Ha.out j (by omega) hj)
          rw [hp1] at cp
          clear hp1 Ha
          go_wp2_with fail
          refine cp.mono ?_
          rintro e w2 ⟨rfl, hb2⟩
          have hbr2 := chain hbr hb2
          go_wp2
          go_roundw
          case rel => exact ⟨k + 1, by omega, by go_num, Hn, hbr2⟩
          case measure => simp [intOf]; omega
    · have Hn := Lib.hid (idx_none (p := p) (l := l) fun j hj => Ha.out j (by omega) hj)
      clear Ha
      go_wp2
      go_ret
      exact ⟨ret_int Hn.out.symm, hbr⟩
theorem conP_any (B : Nat) (a : Option Addr) (c : Nat) (l : List Pr) (hl : l.length ≤ 9223372036854775807) (f : FuncId) (cap : Array Value) (p : Pr → Bool) (w : World) (hr : RowIn (prR B) w a l) (hp : AskR (PrV B) f cap p w) :
    Calls Tryd.prog 38 #[.slice a l.length c, .func (.func f) #[] cap] w fun e w' => e = .returned (.bool (l.any p)) ∧ Below w.heap.size w w' := by
  have hi := fun w => idxP_any B a c l hl f cap p w
  have H := Lib.hid (idx_ge p l)
  obtain ⟨h1, h2⟩ := idx_bd p l
  generalize idxB p l = z at *
  generalize l.any p = y at *
  go_enter Tryd.func38, Tryd.ntmps38
  go_wp2_with fail
  refine (hi _ hr hp).mono ?_
  rintro e w1 ⟨rfl, hb1⟩
  go_wp2
  go_ret
  exact ⟨ret_bool H.out, hb1⟩

set_option maxHeartbeats 1000000 in
theorem idxW_any (B : Nat) (a : Option Addr) (c : Nat) (l : List Wt) (hl : l.length ≤ 9223372036854775807) (f : FuncId) (cap : Array Value) (p : Wt → Bool) (w : World) (hr : RowIn (wtR B) w a l) (hp : AskR (WtV B) f cap p w) :
    Calls Tryd.prog 46 #[.slice a l.length c, .func (.func f) #[] cap] w fun e w' => e = .returned (.int .i64 (idxB p l)) ∧ Below w.heap.size w w' := by
  have Hr := Lib.hid hr
  have Hp := Lib.hid hp
  have ef := hp.1
  clear hr hp
  go_enter Tryd.func46, Tryd.ntmps46
  go_wp2
  go_loopw [8] (fun v wr => ∃ k : Nat, k ≤ l.length ∧ v = .int .i64 k ∧ Hid (∀ j, j < k → ∀ (hj : j < l.length), p l[j] = false) ∧ Below w.heap.size w wr) (fun v _ => l.length - (intOf v).toNat)
  case atStart => exact ⟨0, by omega, rfl, fun j hj => by omega, Below.refl _ _⟩
  case round =>
    obtain ⟨k, hk, rfl, Ha, hbr⟩ := hrel
    by_cases hlt : k < l.length
    · obtain ⟨b, off, rfl, hbl, cs, hat, hcell⟩ := (Hr.out.later hbr).get hlt
      all_goals
        obtain ⟨u, hcs, hx⟩ := hat
        subst hcs
        have c0 : wr.cell? ⟨b, off + k * 3, none⟩ = some (.string l[k].key) := hcell 0 _ rfl
        have c1 : wr.cell? ⟨b, off + k * 3 + 1, none⟩ = some (.string l[k].how) := hcell 1 _ rfl
        have c2 : wr.cell? ⟨b, off + k * 3 + 2, none⟩ = some u := hcell 2 _ rfl
        clear hcell
        have cp := Hp.out.2 wr (.agg #[.string l[k].key, .string l[k].how, u]) l[k] ⟨u, rfl, hx⟩ hbr
        cases hp1 : p l[k] with
        | true =>
          have Hn := Lib.hid (idx_at (p := p) hlt hp1 fun j hj hjk => Ha.out j hjk hj)
          rw [hp1] at cp
          clear hp1 Ha
          go_wp2_with fail
          refine cp.mono ?_
          rintro e w2 ⟨rfl, hb2⟩
          go_wp2
          go_ret
          exact ⟨ret_int Hn.out.symm, chain hbr hb2⟩
        | false =>
          have Hn := Lib.hid (show ∀ j, j < k + 1 → ∀ (hj : j < l.length), p l[j] = false from fun j hjk hj => by
            by_cases e : j = k
            · subst e; exact hp1
            · exact Ha.out j (by omega) hj)
          rw [hp1] at cp
          clear hp1 Ha
          go_wp2_with fail
          refine cp.mono ?_
          rintro e w2 ⟨rfl, hb2⟩
          have hbr2 := chain hbr hb2
          go_wp2
          go_roundw
          case rel => exact ⟨k + 1, by omega, by go_num, Hn, hbr2⟩
          case measure => simp [intOf]; omega
    · have Hn := Lib.hid (idx_none (p := p) (l := l) fun j hj => Ha.out j (by omega) hj)
      clear Ha
      go_wp2
      go_ret
      exact ⟨ret_int Hn.out.symm, hbr⟩
theorem conW_any (B : Nat) (a : Option Addr) (c : Nat) (l : List Wt) (hl : l.length ≤ 9223372036854775807) (f : FuncId) (cap : Array Value) (p : Wt → Bool) (w : World) (hr : RowIn (wtR B) w a l) (hp : AskR (WtV B) f cap p w) :
    Calls Tryd.prog 28 #[.slice a l.length c, .func (.func f) #[] cap] w fun e w' => e = .returned (.bool (l.any p)) ∧ Below w.heap.size w w' := by
  have hi := fun w => idxW_any B a c l hl f cap p w
  have H := Lib.hid (idx_ge p l)
  obtain ⟨h1, h2⟩ := idx_bd p l
  generalize idxB p l = z at *
  generalize l.any p = y at *
  go_enter Tryd.func28, Tryd.ntmps28
  go_wp2_with fail
  refine (hi _ hr hp).mono ?_
  rintro e w1 ⟨rfl, hb1⟩
  go_wp2
  go_ret
  exact ⟨ret_bool H.out, hb1⟩
end Go.Proofs.YtodobacgbbpmfaaDoor.lab
