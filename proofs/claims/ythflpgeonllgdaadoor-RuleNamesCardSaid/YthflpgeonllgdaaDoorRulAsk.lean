/- Layer 8: rule's function values: nothingOr, group, each; filled. -/
import Derived.Test.YthflpgeonllgdaaDoorRulMay
namespace Go.Proofs.YthflpgeonllgdaaDoor.rul
open Go.RowKit Go.Proofs.YthflpgeonllgdaaDoor.rep Go.Proofs.YthflpgeonllgdaaDoor.lab

/-- A call that hands a function back: it answers p from now on, in new memory. -/
def GivesA (B : Nat) (p : ByteArray → Bool) (w : World) (e : Ending) (w' : World) : Prop := ∃ k cap, e = .returned (.func (.func k) #[] cap) ∧ AskR (TxV B) k cap p w' ∧ Below w.heap.size w w'
def orNone (p : ByteArray → Bool) (x : ByteArray) : Bool := x.data.toList.isEmpty || p x
theorem norC_any (B : Nat) (k : FuncId) (cap : Array Value) (p : ByteArray → Bool) (x : ByteArray) (hx : x.size ≤ B) (g : Nat) (w : World) (hg : w.cell? ⟨g, 0, none⟩ = some (.func (.func k) #[] cap)) (hp : AskR (TxV B) k cap p w) :
    Calls Tryd.prog 66 #[.string x, .pointer (some ⟨g, 0, none⟩)] w fun e w' => e = .returned (.bool (orNone p x)) ∧ Below w.heap.size w w' := by
  have hlt := cell_lt hg
  have ek := hp.1
  have cp := hp.2 w (.string x) x ⟨rfl, hx⟩ (Below.refl _ _)
  have H := Lib.hid (show orNone p x = (x.toList.isEmpty || p x) by unfold orNone; rw [empty_l])
  cases e1 : x.toList.isEmpty with
  | true =>
    rw [e1] at H
    go_enter Tryd.func66, Tryd.ntmps66
    go_wp2
    go_ret
    exact ⟨ret_bool H.out.symm, Below.refl _ _⟩
  | false =>
    rw [e1] at H
    go_enter Tryd.func66, Tryd.ntmps66
    go_wp2_with fail
    refine cp.mono ?_
    rintro e w1 ⟨rfl, hb1⟩
    go_wp2
    go_ret
    exact ⟨ret_bool H.out.symm, hb1⟩
theorem nor_any (B : Nat) (k : FuncId) (cap : Array Value) (p : ByteArray → Bool) (w : World) (hp : AskR (TxV B) k cap p w) :
    Calls Tryd.prog 39 #[.func (.func k) #[] cap] w (GivesA B (orNone p) w) := by
  have hA : ∀ t, AskR (TxV B) 66 #[.pointer (some ⟨w.heap.size, 0, none⟩)] (orNone p) (w.alloc (.cells #[.func (.func k) #[] cap] t)) := fun t =>
    ⟨enters_of Tryd.func66 (by kernel_rfl) rfl, fun W v x hx hb => by
      have hn := below_new w (.cells #[.func (.func k) #[] cap] t)
      have hc : (w.alloc (.cells #[.func (.func k) #[] cap] t)).cell? ⟨w.heap.size, 0, none⟩ = some (.func (.func k) #[] cap) := cell_new _ _ _ _
      obtain ⟨rfl, hx⟩ := hx
      exact norC_any B k cap p x hx _ W ((hb.cell (cell_lt hc)).trans hc) (hp.later (chain hn hb))⟩
  go_enter Tryd.func39, Tryd.ntmps39
  go_wp2
  go_ret
  exact ⟨_, _, rfl, hA _, below_new _ _⟩

theorem ask_segment (B : Nat) (hB : B ≤ 1048576) (w : World) : AskR (TxV B) 38 #[] (fun x => nam.segB x.data.toList) w :=
  ⟨enters_of Tryd.func38 (by kernel_rfl) rfl, fun W v x hx _ => by
    obtain ⟨rfl, hx⟩ := hx
    exact nam.Segment_any x (by unfold Go.maxLen; omega) W⟩
theorem ask_label (B : Nat) (hB : B ≤ 1048576) (w : World) : AskR (TxV B) 41 #[] (fun x => nam.labB x.data.toList) w :=
  ⟨enters_of Tryd.func41 (by kernel_rfl) rfl, fun W v x hx _ => by
    obtain ⟨rfl, hx⟩ := hx
    exact nam.Label_any x (by unfold Go.maxLen; omega) W⟩
theorem ask_subdomain (B : Nat) (hB : B ≤ 1048576) (w : World) (hm : nam.MaxL w) : AskR (TxV B) 40 #[] (fun x => nam.subB x.data.toList) w :=
  ⟨enters_of Tryd.func40 (by kernel_rfl) rfl, fun W v x hx hb => by
    obtain ⟨rfl, hx⟩ := hx
    exact nam.Subdomain_any x (by omega) W (hm.later hb)⟩
theorem ask_verb (B : Nat) (hB : B ≤ 1048576) (w : World) : AskR (TxV B) 28 #[] (fun x => verbE x.data.toList) w :=
  ⟨enters_of Tryd.func28 (by kernel_rfl) rfl, fun W v x hx _ => by
    obtain ⟨rfl, hx⟩ := hx
    exact verb_any x (by omega) W⟩
theorem ask_path (B : Nat) (hB : B ≤ 1048576) (w : World) : AskR (TxV B) 55 #[] (fun x => pathE x.data.toList) w :=
  ⟨enters_of Tryd.func55 (by kernel_rfl) rfl, fun W v x hx _ => by
    obtain ⟨rfl, hx⟩ := hx
    exact path_any x (by omega) W⟩
theorem ask_resource (B : Nat) (hB : B ≤ 1048576) (w : World) (hm : nam.MaxL w) : AskR (TxV B) 54 #[] (fun x => resE x.data.toList) w :=
  ⟨enters_of Tryd.func54 (by kernel_rfl) rfl, fun W v x hx hb => by
    obtain ⟨rfl, hx⟩ := hx
    exact resource_any x (by omega) W (hm.later hb)⟩
theorem group_any (s : ByteArray) (hs : s.size ≤ 1048576) (w : World) (hm : nam.MaxL w) :
    Calls Tryd.prog 53 #[.string s] w fun e w' => e = .returned (.bool (groupE s.data.toList)) ∧ Below w.heap.size w w' := by
  have H := Lib.hid (show groupE s.data.toList = ((s.toList == [42]) || orNone (fun x => nam.subB x.data.toList) s) by unfold groupE orNone; rw [star_l])
  cases e1 : (s.toList == [42]) with
  | true =>
    rw [e1] at H
    go_enter Tryd.func53, Tryd.ntmps53
    go_wp2
    go_ret
    exact ⟨ret_bool H.out.symm, Below.refl _ _⟩
  | false =>
    rw [e1] at H
    go_enter Tryd.func53, Tryd.ntmps53
    go_wp2_with fail
    refine (nor_any s.size _ _ _ _ (ask_subdomain s.size hs _ hm)).mono ?_
    rintro e w1 ⟨k, cap, rfl, hk, hb1⟩
    have ek := hk.1
    have ck := hk.2 w1 (.string s) s ⟨rfl, Nat.le_refl _⟩ (Below.refl _ _)
    go_wp2_with fail
    refine ck.mono ?_
    rintro e w2 ⟨rfl, hb2⟩
    go_wp2
    go_ret
    exact ⟨ret_bool H.out.symm, chain hb1 hb2⟩
theorem ask_group (B : Nat) (hB : B ≤ 1048576) (w : World) (hm : nam.MaxL w) : AskR (TxV B) 53 #[] (fun x => groupE x.data.toList) w :=
  ⟨enters_of Tryd.func53 (by kernel_rfl) rfl, fun W v x hx hb => by
    obtain ⟨rfl, hx⟩ := hx
    exact group_any x (by omega) W (hm.later hb)⟩

theorem eachC_any (B : Nat) (k : FuncId) (cap : Array Value) (p : ByteArray → Bool) (x : ByteArray) (hx : x.size ≤ B) (g : Nat) (w : World) (hg : w.cell? ⟨g, 0, none⟩ = some (.func (.func k) #[] cap)) (hp : AskR (TxV B) k cap p w) :
    Calls Tryd.prog 52 #[.string x, .pointer (some ⟨g, 0, none⟩)] w fun e w' => e = .returned (.bool (!(p x))) ∧ Below w.heap.size w w' := by
  have hlt := cell_lt hg
  have ek := hp.1
  have cp := hp.2 w (.string x) x ⟨rfl, hx⟩ (Below.refl _ _)
  go_enter Tryd.func52, Tryd.ntmps52
  go_wp2_with fail
  refine cp.mono ?_
  rintro e w1 ⟨rfl, hb1⟩
  go_wp2
  go_ret
  exact ⟨rfl, hb1⟩
theorem any_not {α : Type} (p : α → Bool) (l : List α) : (l.any fun x => !(p x)) = !(l.all p) := by
  induction l with
  | nil => rfl
  | cons x l ih => rw [List.any_cons, List.all_cons, ih, Bool.not_and]
theorem each_any (B : Nat) (k : FuncId) (cap : Array Value) (p : ByteArray → Bool) (a : Option Addr) (c : Nat) (l : List ByteArray) (hl : l.length ≤ 9223372036854775807) (w : World) (hr : RowIn (text B) w a l) (hp : AskR (TxV B) k cap p w) :
    Calls Tryd.prog 27 #[.slice a l.length c, .func (.func k) #[] cap] w fun e w' => e = .returned (.bool (l.all p)) ∧ Below w.heap.size w w' := by
  have hA : ∀ t, AskR (TxV B) 52 #[.pointer (some ⟨w.heap.size, 0, none⟩)] (fun x => !(p x)) (w.alloc (.cells #[.func (.func k) #[] cap] t)) := fun t =>
    ⟨enters_of Tryd.func52 (by kernel_rfl) rfl, fun W v x hx hb => by
      have hn := below_new w (.cells #[.func (.func k) #[] cap] t)
      have hc : (w.alloc (.cells #[.func (.func k) #[] cap] t)).cell? ⟨w.heap.size, 0, none⟩ = some (.func (.func k) #[] cap) := cell_new _ _ _ _
      obtain ⟨rfl, hx⟩ := hx
      exact eachC_any B k cap p x hx _ W ((hb.cell (cell_lt hc)).trans hc) (hp.later (chain hn hb))⟩
  have HA := Lib.hid hA
  have cn := fun k cap W hr hp => conT_any B a c l hl k cap (fun x => !(p x)) W hr hp
  rw [any_not] at cn
  generalize l.all p = z at *
  clear hA
  go_enter Tryd.func27, Tryd.ntmps27
  go_wp2_with fail
  refine (cn _ _ _ (hr.later (below_new _ _)) (HA.out _)).mono ?_
  rintro e w1 ⟨rfl, hb1⟩
  go_wp2
  go_ret
  exact ⟨rfl, chain (below_new _ _) hb1⟩
def filledB (l : List ByteArray) : Bool := decide (1 ≤ l.length) && decide (l.length ≤ 16)
theorem filled_any (a : Option Addr) (c : Nat) (l : List ByteArray) (hl : l.length ≤ 9223372036854775807) (w : World) :
    Calls Tryd.prog 26 #[.slice a l.length c] w fun e w' => e = .returned (.bool (filledB l)) ∧ w = w' := by
  by_cases h1 : (1 : Int) ≤ l.length
  · by_cases h2 : (l.length : Int) ≤ 16
    · have H := Lib.hid (show filledB l = true by unfold filledB; rw [decide_eq_true (by omega), decide_eq_true (by omega)]; rfl)
      go_enter Tryd.func26, Tryd.ntmps26
      go_wp2
      go_ret
      exact ⟨ret_bool H.out.symm, rfl⟩
    · have H := Lib.hid (show filledB l = false by unfold filledB; rw [decide_eq_false (p := l.length ≤ 16) (by omega), Bool.and_false])
      go_enter Tryd.func26, Tryd.ntmps26
      go_wp2
      go_ret
      exact ⟨ret_bool H.out.symm, rfl⟩
  · have H := Lib.hid (show filledB l = false by unfold filledB; rw [decide_eq_false (by omega)]; rfl)
    go_enter Tryd.func26, Tryd.ntmps26
    go_wp2
    go_ret
    exact ⟨ret_bool H.out.symm, rfl⟩
end Go.Proofs.YthflpgeonllgdaaDoor.rul
