/- Layer 7: of the document: Has, Among, Wants. -/
import Derived.Test.YtodobacgbbpmfaaDoorLabChk
namespace Go.Proofs.YtodobacgbbpmfaaDoor.lab
open Go.RowKit Go.Proofs.YtodobacgbbpmfaaDoor.rep

theorem found_size : (Tryd.prog.info? 32).map (·.size) = some 2 := by kernel_rfl
def FoundTo (l : List Pr) (key : ByteArray) (w : World) (e : Ending) (w' : World) : Prop := e = .returned (.agg #[.string (hasV l key), .bool (hasB l key)]) ∧ Below w.heap.size w w'
set_option maxHeartbeats 1000000 in
theorem rHas_any (B : Nat) (a : Option Addr) (c : Nat) (l : List Pr) (hl : l.length ≤ 140737488355328) (key : ByteArray) (w : World) (hr : RowIn (prR B) w a l) :
    Calls Tryd.prog 13 #[.slice a l.length c, .string key] w (FoundTo l key w) := by
  have Hr := Lib.hid hr
  clear hr
  go_enter Tryd.func13, Tryd.ntmps13
  go_wp2
  go_loop [5] (fun u => ∃ k : Nat, k ≤ l.length ∧ u = .int .i64 k ∧ Hid (∀ j, j < k → ∀ (hj : j < l.length), keyIs key l[j] = false)) (fun u => l.length - (intOf u).toNat)
  case atStart => exact ⟨0, by omega, rfl, fun j hj => by omega⟩
  case round =>
    obtain ⟨k, hk, rfl, Ha⟩ := hrel
    by_cases hlt : k < l.length
    · obtain ⟨b, off, rfl, hbl, cs, hat, hcell⟩ := Hr.out.get hlt
      obtain ⟨hcs, hx⟩ := hat
      subst hcs
      have c0 : w.cell? ⟨b, off + k * 2, none⟩ = some (.string l[k].key) := hcell 0 _ rfl
      have c1 : w.cell? ⟨b, off + k * 2 + 1, none⟩ = some (.string l[k].value) := hcell 1 _ rfl
      clear hcell
      cases hp1 : keyIs key l[k] with
      | true =>
        have ht : (l[k].key.toList == key.toList) = true := hp1
        obtain ⟨e1, e2⟩ := has_at hlt hp1 fun j hj hjk => Ha.out j hjk hj
        have Hn : Hid (∀ w', Below w.heap.size w w' → FoundTo l key w (.returned (.agg #[.string l[k].value, .bool true])) w') := fun w' hb => ⟨by rw [e1, e2], hb⟩
        clear Ha hp1 e1 e2
        go_wp2
        refine bodyPost_ret (results_cell_row rfl _ _ w.heap.size 32 _ (0, 0) _ rfl (heap_alloc_new w _) Tryd.underlying32 rfl found_size) rfl (Hn.out _ (below_new _ _))
      | false =>
        have ht : (l[k].key.toList == key.toList) = false := hp1
        have Hn := Lib.hid (show ∀ j, j < k + 1 → ∀ (hj : j < l.length), keyIs key l[j] = false from fun j hjk hj => by
          by_cases e : j = k
          · subst e; exact hp1
          · exact Ha.out j (by omega) hj)
        clear Ha hp1
        go_wp2
        go_round
        case rel => exact ⟨k + 1, by omega, by go_num, Hn⟩
        case measure => simp [intOf]; omega
    · obtain ⟨e1, e2⟩ := has_none (l := l) (k := key) fun j hj => Ha.out j (by omega) hj
      have Hn : Hid (∀ w', Below w.heap.size w w' → FoundTo l key w (.returned (.agg #[.string ⟨#[]⟩, .bool false])) w') := fun w' hb => ⟨by rw [e1, e2], hb⟩
      clear Ha e1 e2
      go_wp2
      refine bodyPost_ret (results_cell_row rfl _ _ w.heap.size 32 _ (0, 0) _ rfl (heap_alloc_new w _) Tryd.underlying32 rfl found_size) rfl (Hn.out _ (below_new _ _))

set_option maxHeartbeats 1000000 in
theorem rAmong_any (B : Nat) (a : Option Addr) (c : Nat) (l : List ByteArray) (hl : l.length ≤ 140737488355328) (v : ByteArray) (w : World) (hr : RowIn (text B) w a l) :
    Calls Tryd.prog 27 #[.slice a l.length c, .string v] w fun e w' => e = .returned (.bool (among l v)) ∧ w = w' := by
  have Hr := Lib.hid hr
  clear hr
  go_enter Tryd.func27, Tryd.ntmps27
  go_wp2
  go_loop [5] (fun u => ∃ k : Nat, k ≤ l.length ∧ u = .int .i64 k ∧ Hid (∀ j, j < k → ∀ (hj : j < l.length), (l[j].toList == v.toList) = false)) (fun u => l.length - (intOf u).toNat)
  case atStart => exact ⟨0, by omega, rfl, fun j hj => by omega⟩
  case round =>
    obtain ⟨k, hk, rfl, Ha⟩ := hrel
    by_cases hlt : k < l.length
    · obtain ⟨b, off, rfl, hbl, cs, hat, hcell⟩ := Hr.out.get hlt
      obtain ⟨hcs, hx⟩ := hat
      subst hcs
      have c0 : w.cell? ⟨b, off + k, none⟩ = some (.string l[k]) := by have := hcell 0 _ rfl; simpa [text] using this
      clear hcell
      cases hp1 : (l[k].toList == v.toList) with
      | true =>
        have Hn : Hid (among l v = true) := List.any_eq_true.2 ⟨l[k], List.getElem_mem hlt, hp1⟩
        clear Ha
        go_wp2
        go_ret
        exact ⟨ret_bool Hn.out.symm, rfl⟩
      | false =>
        have Hn := Lib.hid (show ∀ j, j < k + 1 → ∀ (hj : j < l.length), (l[j].toList == v.toList) = false from fun j hjk hj => by
          by_cases e : j = k
          · subst e; exact hp1
          · exact Ha.out j (by omega) hj)
        clear Ha
        go_wp2
        go_round
        case rel => exact ⟨k + 1, by omega, by go_num, Hn⟩
        case measure => simp [intOf]; omega
    · have Hn : Hid (among l v = false) := any_false (p := fun x : ByteArray => x.toList == v.toList) fun j hj => Ha.out j (by omega) hj
      clear Ha
      go_wp2
      go_ret
      exact ⟨ret_bool Hn.out.symm, rfl⟩
end Go.Proofs.YtodobacgbbpmfaaDoor.lab
