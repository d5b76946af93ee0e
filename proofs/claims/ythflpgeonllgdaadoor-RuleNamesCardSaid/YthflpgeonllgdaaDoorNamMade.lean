/- Layer 3: the contracts of either, but, made and all: function values over function values. -/
import Derived.Test.YthflpgeonllgdaaDoorNamLeaf
namespace Go.Proofs.YthflpgeonllgdaaDoor.nam
open Go.RowKit Go.Shelf

/-- What either's closure answers, over two cells that hold function values. -/
theorem eitherC_any (k j : FuncId) (ck cj : Array Value) (p q : Nat → Bool) (a c : Nat) (b : Nat) (hb : b < 256) (w : World)
    (ha : w.cell? ⟨a, 0, none⟩ = some (.func (.func k) #[] ck)) (hc : w.cell? ⟨c, 0, none⟩ = some (.func (.func j) #[] cj)) (hp : Asks k ck p w) (hq : Asks j cj q w) :
    Calls Tryd.prog 85 #[.int .u8 b, .pointer (some ⟨a, 0, none⟩), .pointer (some ⟨c, 0, none⟩)] w fun e w' => e = .returned (.bool (orB p q b)) ∧ w = w' := by
  have ek := hp.1
  have ej := hq.1
  have cp := hp.2 w b hb (Below.refl _ _)
  have cq := hq.2 w b hb (Below.refl _ _)
  cases hpb : p b with
  | true =>
    have H := Lib.hid (show orB p q b = true by unfold orB; rw [hpb]; rfl)
    rw [hpb] at cp
    clear hpb
    go_enter Tryd.func85, Tryd.ntmps85
    go_wp2_with fail
    refine cp.mono ?_
    rintro e w' ⟨rfl, rfl⟩
    go_wp2
    go_ret
    exact ⟨ret_bool H.out.symm, rfl⟩
  | false =>
    have H := Lib.hid (show orB p q b = q b by unfold orB; rw [hpb]; rfl)
    rw [hpb] at cp
    clear hpb
    go_enter Tryd.func85, Tryd.ntmps85
    go_wp2_with fail
    refine cp.mono ?_
    rintro e w' ⟨rfl, rfl⟩
    go_wp2_with fail
    refine cq.mono ?_
    rintro e w' ⟨rfl, rfl⟩
    go_wp2
    go_ret
    exact ⟨ret_bool H.out.symm, rfl⟩
theorem butC_any (k j : FuncId) (ck cj : Array Value) (p q : Nat → Bool) (a c : Nat) (b : Nat) (hb : b < 256) (w : World)
    (ha : w.cell? ⟨a, 0, none⟩ = some (.func (.func k) #[] ck)) (hc : w.cell? ⟨c, 0, none⟩ = some (.func (.func j) #[] cj)) (hp : Asks k ck p w) (hq : Asks j cj q w) :
    Calls Tryd.prog 83 #[.int .u8 b, .pointer (some ⟨a, 0, none⟩), .pointer (some ⟨c, 0, none⟩)] w fun e w' => e = .returned (.bool (butB p q b)) ∧ w = w' := by
  have ek := hp.1
  have ej := hq.1
  have cp := hp.2 w b hb (Below.refl _ _)
  have cq := hq.2 w b hb (Below.refl _ _)
  cases hpb : p b with
  | false =>
    have H := Lib.hid (show butB p q b = false by unfold butB; rw [hpb]; rfl)
    rw [hpb] at cp
    clear hpb
    go_enter Tryd.func83, Tryd.ntmps83
    go_wp2_with fail
    refine cp.mono ?_
    rintro e w' ⟨rfl, rfl⟩
    go_wp2
    go_ret
    exact ⟨ret_bool H.out.symm, rfl⟩
  | true =>
    have H := Lib.hid (show butB p q b = !q b by unfold butB; rw [hpb]; rfl)
    rw [hpb] at cp
    clear hpb
    go_enter Tryd.func83, Tryd.ntmps83
    go_wp2_with fail
    refine cp.mono ?_
    rintro e w' ⟨rfl, rfl⟩
    go_wp2_with fail
    refine cq.mono ?_
    rintro e w' ⟨rfl, rfl⟩
    go_wp2
    go_ret
    exact ⟨ret_bool H.out.symm, rfl⟩

/-- What a call that hands a function back says: it answers p from now on, in new memory. -/
def Made (p : Nat → Bool) (w : World) (e : Ending) (w' : World) : Prop := ∃ k cap, e = .returned (.func (.func k) #[] cap) ∧ Asks k cap p w' ∧ Below w.heap.size w w'

theorem two_cells (w : World) (u v : Value) (t : TypeId) : ((w.alloc (.cells #[u] t)).alloc (.cells #[v] t)).cell? ⟨w.heap.size, 0, none⟩ = some u ∧ ((w.alloc (.cells #[u] t)).alloc (.cells #[v] t)).cell? ⟨w.heap.size + 1, 0, none⟩ = some v := by
  have h1 := cell_of_row _ w.heap.size 0 #[u] t (0, 0) (heap_alloc_new w (.cells #[u] t))
  have h2 := cell_of_row _ (w.alloc (.cells #[u] t)).heap.size 0 #[v] t (0, 0) (heap_alloc_new (w.alloc (.cells #[u] t)) (.cells #[v] t))
  refine ⟨?_, ?_⟩
  · rw [World.cell?_alloc_lt _ _ _ (by simp)]; exact h1
  · rw [World.size_alloc] at h2; exact h2

set_option maxHeartbeats 400000 in
theorem either_any (k j : FuncId) (ck cj : Array Value) (p q : Nat → Bool) (w : World) (hp : Asks k ck p w) (hq : Asks j cj q w) :
    Calls Tryd.prog 68 #[.func (.func k) #[] ck, .func (.func j) #[] cj] w (Made (orB p q) w) := by
  have hB : ∀ u v t, Below w.heap.size w ((w.alloc (.cells #[u] t)).alloc (.cells #[v] t)) := fun u v t => ((Below.refl _ _).alloc (Nat.le_refl _) _).alloc (by simp) _
  have hA : ∀ t, Asks 85 #[.pointer (some ⟨w.heap.size, 0, none⟩), .pointer (some ⟨w.heap.size + 1, 0, none⟩)] (orB p q) ((w.alloc (.cells #[.func (.func k) #[] ck] t)).alloc (.cells #[.func (.func j) #[] cj] t)) := fun t =>
    ⟨enters_of Tryd.func85 (by kernel_rfl) rfl, fun W b hb hb' => by
      obtain ⟨c1, c2⟩ := two_cells w (.func (.func k) #[] ck) (.func (.func j) #[] cj) t
      have hz : ((w.alloc (.cells #[.func (.func k) #[] ck] t)).alloc (.cells #[.func (.func j) #[] cj] t)).heap.size = w.heap.size + 2 := by simp
      have hb2 := (hB (.func (.func k) #[] ck) (.func (.func j) #[] cj) t).trans (hb'.mono (by omega))
      exact eitherC_any k j ck cj p q _ _ b hb W ((hb'.cell (p := ⟨w.heap.size, 0, none⟩) (by show w.heap.size < _; omega)).trans c1) ((hb'.cell (p := ⟨w.heap.size + 1, 0, none⟩) (by show w.heap.size + 1 < _; omega)).trans c2) (hp.later hb2) (hq.later hb2)⟩
  go_enter Tryd.func68, Tryd.ntmps68
  go_wp2
  go_ret
  exact ⟨_, _, rfl, hA _, hB _ _ _⟩
set_option maxHeartbeats 400000 in
theorem but_any (k j : FuncId) (ck cj : Array Value) (p q : Nat → Bool) (w : World) (hp : Asks k ck p w) (hq : Asks j cj q w) :
    Calls Tryd.prog 64 #[.func (.func k) #[] ck, .func (.func j) #[] cj] w (Made (butB p q) w) := by
  have hB : ∀ u v t, Below w.heap.size w ((w.alloc (.cells #[u] t)).alloc (.cells #[v] t)) := fun u v t => ((Below.refl _ _).alloc (Nat.le_refl _) _).alloc (by simp) _
  have hA : ∀ t, Asks 83 #[.pointer (some ⟨w.heap.size, 0, none⟩), .pointer (some ⟨w.heap.size + 1, 0, none⟩)] (butB p q) ((w.alloc (.cells #[.func (.func k) #[] ck] t)).alloc (.cells #[.func (.func j) #[] cj] t)) := fun t =>
    ⟨enters_of Tryd.func83 (by kernel_rfl) rfl, fun W b hb hb' => by
      obtain ⟨c1, c2⟩ := two_cells w (.func (.func k) #[] ck) (.func (.func j) #[] cj) t
      have hz : ((w.alloc (.cells #[.func (.func k) #[] ck] t)).alloc (.cells #[.func (.func j) #[] cj] t)).heap.size = w.heap.size + 2 := by simp
      have hb2 := (hB (.func (.func k) #[] ck) (.func (.func j) #[] cj) t).trans (hb'.mono (by omega))
      exact butC_any k j ck cj p q _ _ b hb W ((hb'.cell (p := ⟨w.heap.size, 0, none⟩) (by show w.heap.size < _; omega)).trans c1) ((hb'.cell (p := ⟨w.heap.size + 1, 0, none⟩) (by show w.heap.size + 1 < _; omega)).trans c2) (hp.later hb2) (hq.later hb2)⟩
  go_enter Tryd.func64, Tryd.ntmps64
  go_wp2
  go_ret
  exact ⟨_, _, rfl, hA _, hB _ _ _⟩

theorem len_data (s : ByteArray) : s.data.toList.length = s.size := Array.length_toList
theorem getD_data (s : ByteArray) (k : Nat) (h : k < s.size) : s.data.toList.getD k 0 = s[k] := by
  rw [List.getD_eq_getElem?_getD, List.getElem?_eq_getElem (by rw [len_data]; exact h)]; rfl
theorem tst_edge (E I : Nat → Bool) (s : ByteArray) (k : Nat) (h : k < s.size) (he : k = 0 ∨ k + 1 = s.size) : tst E I s.data.toList k = E s[k].toNat := by
  unfold tst; rw [getD_data s k h, len_data, if_pos he]
theorem tst_inner (E I : Nat → Bool) (s : ByteArray) (k : Nat) (h : k < s.size) (he : ¬ (k = 0 ∨ k + 1 = s.size)) : tst E I s.data.toList k = I s[k].toNat := by
  unfold tst; rw [getD_data s k h, len_data, if_neg he]
theorem made_all (E I : Nat → Bool) (s : ByteArray) (k : Nat) (h : ¬ k < s.size) (ha : ∀ i, i < k → tst E I s.data.toList i = true) : madeB E I s.data.toList = true :=
  madeB_iff.2 fun i hi => ha i (by rw [len_data] at hi; omega)
theorem made_not (E I : Nat → Bool) (s : ByteArray) (k : Nat) (h : k < s.size) (hn : tst E I s.data.toList k = false) : madeB E I s.data.toList = false :=
  madeB_no (by rw [len_data]; exact h) hn
theorem made_snoc {E I : Nat → Bool} {l : List UInt8} {k : Nat} (ha : ∀ i, i < k → tst E I l i = true) (hn : tst E I l k = true) : ∀ i, i < k + 1 → tst E I l i = true := fun i hi => by
  by_cases e : i = k
  · rw [e]; exact hn
  · exact ha i (by omega)
theorem toNat_lt (c : UInt8) : c.toNat < 256 := c.toNat_lt

set_option maxHeartbeats 1000000 in
theorem made_any (s : ByteArray) (hs : s.size ≤ maxLen) (k j : FuncId) (ck cj : Array Value) (E I : Nat → Bool) (w : World) (hp : Asks k ck E w) (hq : Asks j cj I w) :
    Calls Tryd.prog 70 #[.string s, .func (.func k) #[] ck, .func (.func j) #[] cj] w fun e w' => e = .returned (.bool (madeB E I s.data.toList)) ∧ w = w' := by
  unfold maxLen at hs
  have ek := hp.1
  have ej := hq.1
  go_enter Tryd.func70, Tryd.ntmps70
  go_wp2
  go_step3
  go_wp2
  go_step3
  go_wp2
  go_loop [7] (fun v => ∃ k : Nat, k ≤ s.size ∧ v = .int .i64 k ∧ Hid (∀ i, i < k → tst E I s.data.toList i = true)) (fun v => s.size - (intOf v).toNat)
  case atStart => exact ⟨0, by omega, rfl, fun i hi => by omega⟩
  case round =>
    obtain ⟨k, hk, rfl, Ha⟩ := hrel
    by_cases hlt : k < s.size
    · by_cases h0 : k = 0
      · have e0 : ((k : Int) == 0) = true := beq_iff_eq.2 (by omega)
        have hed : k = 0 ∨ k + 1 = s.size := .inl h0
        clear h0
        have cp := hp.2 w s[k].toNat (toNat_lt _) (Below.refl _ _)
        cases hE : E s[k].toNat with
        | true =>
          have Hn := Lib.hid (made_snoc Ha.out ((tst_edge E I s k hlt hed).trans hE))
          rw [hE] at cp
          clear hE hed
          go_wp2_with fail
          refine cp.mono ?_
          rintro e w' ⟨rfl, rfl⟩
          go_wp2
          go_round
          case measure => simp [intOf]; omega
          case rel => exact ⟨k + 1, by omega, by go_num, Hn⟩
        | false =>
          have Hn := Lib.hid (made_not E I s k hlt ((tst_edge E I s k hlt hed).trans hE))
          rw [hE] at cp
          clear hE hed
          go_wp2_with fail
          refine cp.mono ?_
          rintro e w' ⟨rfl, rfl⟩
          go_wp2
          rw [Exit.noGoto_ret]
          go_ret
          exact ⟨ret_bool ((decide_eq_false (by omega)).trans Hn.out.symm), rfl⟩
      · have e0 : ((k : Int) == 0) = false := beq_eq_false_iff_ne.2 (by omega)
        by_cases h1 : k + 1 = s.size
        · have e1 : ((k : Int) == (s.size : Int) - 1) = true := beq_iff_eq.2 (by omega)
          have hed : k = 0 ∨ k + 1 = s.size := .inr h1
          clear h0 h1
          have cp := hp.2 w s[k].toNat (toNat_lt _) (Below.refl _ _)
          cases hE : E s[k].toNat with
          | true =>
            have Hn := Lib.hid (made_snoc Ha.out ((tst_edge E I s k hlt hed).trans hE))
            rw [hE] at cp
            clear hE hed
            go_wp2_with fail
            refine cp.mono ?_
            rintro e w' ⟨rfl, rfl⟩
            go_wp2
            go_round
            case measure => simp [intOf]; omega
            case rel => exact ⟨k + 1, by omega, by go_num, Hn⟩
          | false =>
            have Hn := Lib.hid (made_not E I s k hlt ((tst_edge E I s k hlt hed).trans hE))
            rw [hE] at cp
            clear hE hed
            go_wp2_with fail
            refine cp.mono ?_
            rintro e w' ⟨rfl, rfl⟩
            go_wp2
            rw [Exit.noGoto_ret]
            go_ret
            exact ⟨ret_bool ((decide_eq_false (by omega)).trans Hn.out.symm), rfl⟩
        · have e1 : ((k : Int) == (s.size : Int) - 1) = false := beq_eq_false_iff_ne.2 (by omega)
          have hed : ¬ (k = 0 ∨ k + 1 = s.size) := fun h => h.elim h0 h1
          clear h0 h1
          have cp := hq.2 w s[k].toNat (toNat_lt _) (Below.refl _ _)
          cases hE : I s[k].toNat with
          | true =>
            have Hn := Lib.hid (made_snoc Ha.out ((tst_inner E I s k hlt hed).trans hE))
            rw [hE] at cp
            clear hE hed
            go_wp2_with fail
            refine cp.mono ?_
            rintro e w' ⟨rfl, rfl⟩
            go_wp2
            go_round
            case measure => simp [intOf]; omega
            case rel => exact ⟨k + 1, by omega, by go_num, Hn⟩
          | false =>
            have Hn := Lib.hid (made_not E I s k hlt ((tst_inner E I s k hlt hed).trans hE))
            rw [hE] at cp
            clear hE hed
            go_wp2_with fail
            refine cp.mono ?_
            rintro e w' ⟨rfl, rfl⟩
            go_wp2
            rw [Exit.noGoto_ret]
            go_ret
            exact ⟨ret_bool ((decide_eq_false (by omega)).trans Hn.out.symm), rfl⟩
    · have Hn := Lib.hid (made_all E I s k hlt Ha.out)
      go_wp2
      go_ret
      exact ⟨ret_bool Hn.out.symm, rfl⟩

theorem all_any (s : ByteArray) (hs : s.size ≤ maxLen) (k : FuncId) (ck : Array Value) (E : Nat → Bool) (w : World) (hp : Asks k ck E w) :
    Calls Tryd.prog 61 #[.string s, .func (.func k) #[] ck] w fun e w' => e = .returned (.bool (madeB E E s.data.toList)) ∧ w = w' := by
  go_enter Tryd.func61, Tryd.ntmps61
  go_wp2_with fail
  refine (made_any s hs k k ck ck E E _ hp hp).mono ?_
  rintro e w' ⟨rfl, rfl⟩
  go_wp2
  go_ret
  exact ⟨rfl, rfl⟩
end Go.Proofs.YthflpgeonllgdaaDoor.nam
