/- Layer 7: label.not at texts and at wants, label.mayWant, label.Check, label.Empty. -/
import Derived.Test.YtodobacgbbpmfaaDoorLabLbl
import Derived.Test.YtodobacgbbpmfaaDoorRepQ
import Derived.Deep.QuietTactic
namespace Go.Proofs.YtodobacgbbpmfaaDoor.lab
open Go.RowKit Go.Proofs.YtodobacgbbpmfaaDoor.rep

def NotTo {α : Type} (R : World → Value → α → Prop) (p : α → Bool) (w : World) (e : Ending) (w' : World) : Prop := ∃ k cap, e = .returned (.func (.func k) #[] cap) ∧ AskR R k cap (fun x => !(p x)) w' ∧ Below w.heap.size w w'
theorem notT1_any (B : Nat) (k : FuncId) (cap : Array Value) (p : ByteArray → Bool) (x : ByteArray) (hx : x.size ≤ B) (g : Nat) (w : World) (hg : w.cell? ⟨g, 0, none⟩ = some (.func (.func k) #[] cap)) (hp : AskR (TxV B) k cap p w) :
    Calls Tryd.prog 65 #[.string x, .pointer (some ⟨g, 0, none⟩)] w fun e w' => e = .returned (.bool (!(p x))) ∧ Below w.heap.size w w' := by
  have ek := hp.1
  have cp := hp.2 w (.string x) x ⟨rfl, hx⟩ (Below.refl _ _)
  go_enter Tryd.func65, Tryd.ntmps65
  go_wp2_with fail
  refine cp.mono ?_
  rintro e w1 ⟨rfl, hb1⟩
  go_wp2
  go_ret
  exact ⟨rfl, hb1⟩
theorem notW1_any (B : Nat) (k : FuncId) (cap : Array Value) (p : Wt → Bool) (x : Wt) (u : Value) (h1 : x.key.size ≤ B) (h2 : x.how.size ≤ B) (g : Nat) (w : World) (hu : RowAt B (text B) w u x.vals) (hg : w.cell? ⟨g, 0, none⟩ = some (.func (.func k) #[] cap)) (hp : AskR (WtV B) k cap p w) :
    Calls Tryd.prog 47 #[.agg #[.string x.key, .string x.how, u], .pointer (some ⟨g, 0, none⟩)] w fun e w' => e = .returned (.bool (!(p x))) ∧ Below w.heap.size w w' := by
  have hlt := cell_lt hg
  have ek := hp.1
  have hb1 := below_new w (.cells #[.string x.key, .string x.how, u] 37)
  have cp := hp.2 _ (.agg #[.string x.key, .string x.how, u]) x ⟨u, rfl, h1, h2, hu.later hb1⟩ hb1
  go_enter Tryd.func47, Tryd.ntmps47
  go_wp2_with fail
  refine cp.mono ?_
  rintro e w1 ⟨rfl, hb2⟩
  go_wp2
  go_ret
  exact ⟨rfl, chain hb1 hb2⟩
theorem notT_any (B : Nat) (k : FuncId) (cap : Array Value) (p : ByteArray → Bool) (w : World) (hp : AskR (TxV B) k cap p w) :
    Calls Tryd.prog 49 #[.func (.func k) #[] cap] w (NotTo (TxV B) p w) := by
  have hA : ∀ t, AskR (TxV B) 65 #[.pointer (some ⟨w.heap.size, 0, none⟩)] (fun x => !(p x)) (w.alloc (.cells #[.func (.func k) #[] cap] t)) := fun t =>
    ⟨enters_of Tryd.func65 (by kernel_rfl) rfl, fun W v x hx hb => by
      have hn := below_new w (.cells #[.func (.func k) #[] cap] t)
      have hc : (w.alloc (.cells #[.func (.func k) #[] cap] t)).cell? ⟨w.heap.size, 0, none⟩ = some (.func (.func k) #[] cap) := cell_new _ _ _ _
      obtain ⟨rfl, hx⟩ := hx
      exact notT1_any B k cap p x hx _ W ((hb.cell (cell_lt hc)).trans hc) (hp.later (chain hn hb))⟩
  go_enter Tryd.func49, Tryd.ntmps49
  go_wp2
  go_ret
  exact ⟨_, _, rfl, hA _, below_new _ _⟩
theorem notW_any (B : Nat) (k : FuncId) (cap : Array Value) (p : Wt → Bool) (w : World) (hp : AskR (WtV B) k cap p w) :
    Calls Tryd.prog 29 #[.func (.func k) #[] cap] w (NotTo (WtV B) p w) := by
  have hA : ∀ t, AskR (WtV B) 47 #[.pointer (some ⟨w.heap.size, 0, none⟩)] (fun x => !(p x)) (w.alloc (.cells #[.func (.func k) #[] cap] t)) := fun t =>
    ⟨enters_of Tryd.func47 (by kernel_rfl) rfl, fun W v x hx hb => by
      have hn := below_new w (.cells #[.func (.func k) #[] cap] t)
      have hc : (w.alloc (.cells #[.func (.func k) #[] cap] t)).cell? ⟨w.heap.size, 0, none⟩ = some (.func (.func k) #[] cap) := cell_new _ _ _ _
      obtain ⟨u, rfl, h1, h2, hu⟩ := hx
      exact notW1_any B k cap p x u h1 h2 _ W hu ((hb.cell (cell_lt hc)).trans hc) (hp.later (chain hn hb))⟩
  go_enter Tryd.func29, Tryd.ntmps29
  go_wp2
  go_ret
  exact ⟨_, _, rfl, hA _, below_new _ _⟩
theorem value_ask (B : Nat) (hB : B ≤ 140737488355328) (w : World) : AskR (TxV B) 33 #[] (fun x => nam.valB x.data.toList) w :=
  ⟨enters_of Tryd.func33 (by kernel_rfl) rfl, fun W v x hx _ => by
    obtain ⟨rfl, hx⟩ := hx
    exact nam.LabelValue_any x (by unfold maxLen; omega) W⟩
theorem vals_any (vals : List ByteArray) : (vals.any fun x => !(nam.valB x.data.toList)) = !(valsB vals) := any_not _ _

theorem drewN_below (w : World) (n : Nat) : Below w.heap.size w (w.drewN n) := ⟨rfl, rfl, rfl, Nat.le_refl _, fun _ _ => rfl⟩
theorem len_zero {n : Nat} {b : Bool} (h : b = decide (n = 0)) : ((n : Int) == 0) = b := by
  rw [h, Bool.eq_iff_iff, beq_iff_eq, decide_eq_true_eq]; omega
set_option maxHeartbeats 2000000 in
theorem mayWant_any (B : Nat) (hB : B ≤ 140737488355328) (x : Wt) (u : Value) (h1 : x.key.size ≤ B) (w : World) (hu : RowAt B (text B) w u x.vals) (hm : nam.MaxL w) :
    Calls Tryd.prog 30 #[.agg #[.string x.key, .string x.how, u]] w fun e w' => e = .returned (.bool (wantB x)) ∧ Below w.heap.size w w' := by
  obtain ⟨a, c, rfl, _, hc, _, hr⟩ := hu
  have hb1 := below_new w (.cells #[.string x.key, .string x.how, .slice a x.vals.length c] 37)
  have ck := fun w hm => nam.LabelKey_all x.key (by omega) w hm
  cases hk : nam.keyB x.key.data.toList with
  | false =>
    have H := Lib.hid (show wantB x = false by unfold wantB; rw [hk]; rfl)
    rw [hk] at ck
    clear hk
    go_enter Tryd.func30, Tryd.ntmps30
    go_wp2_with fail
    refine (ck _ (hm.later hb1)).mono ?_
    rintro e w1 ⟨rfl, hb2⟩
    go_wp2
    go_ret
    exact ⟨ret_bool H.out.symm, chain hb1 hb2⟩
  | true =>
    have H := Lib.hid (show wantB x = (if x.how = inS ∨ x.how = notS then decide (0 < x.vals.length) && valsB x.vals else if x.how = thereS ∨ x.how = goneS then decide (x.vals.length = 0) else false) by unfold wantB; rw [hk, Bool.true_and])
    rw [hk] at ck
    clear hk
    by_cases n1 : x.how = inS
    · have H2 := Lib.hid (show wantB x = (decide (0 < x.vals.length) && valsB x.vals) by rw [H.out, if_pos (.inl n1)])
      have t1 := how_yes how_lists.1 n1
      clear H n1
      by_cases hv : 0 < x.vals.length
      · have H3 := Lib.hid (show wantB x = valsB x.vals by rw [H2.out, decide_eq_true hv, Bool.true_and])
        have hv2 : decide (0 < x.vals.length) = true := decide_eq_true hv
        have hv3 : decide ((0 : Int) < (x.vals.length : Int)) = true := decide_eq_true (by omega)
        have cn := fun k cap w hr hp => conT_any B a c x.vals (by omega) k cap (fun x => !(nam.valB x.data.toList)) w hr hp
        rw [vals_any] at cn
        generalize valsB x.vals = z at *
        clear H2 hv
        go_enter Tryd.func30, Tryd.ntmps30
        go_wp2_with fail
        refine (ck _ (hm.later hb1)).mono ?_
        rintro e w1 ⟨rfl, hb2⟩
        have d1 : w1.cell? ⟨w.heap.size, 1, none⟩ = some (.string x.how) := (hb2.cell (p := ⟨w.heap.size, 1, none⟩) (by show w.heap.size < _; simp)).trans (cell_new _ _ _ _)
        have d2 : w1.cell? ⟨w.heap.size, 2, none⟩ = some (.slice a x.vals.length c) := (hb2.cell (p := ⟨w.heap.size, 2, none⟩) (by show w.heap.size < _; simp)).trans (cell_new _ _ _ _)
        have hl1 := hb2.size
        simp at hl1
        go_wp2
        go_region_held3 (fun w' => w'.cell? ⟨w.heap.size, 2, none⟩ = some (.slice a x.vals.length c))
          (first | go_keep)
          (first
            | (go_at_call 49; refine (notT_any B 33 #[] (fun x => nam.valB x.data.toList) _ (value_ask B hB _)).mono ?_; rintro e w2 ⟨k, cap, rfl, hn, hb3⟩; have hb4 := chain hb1 (chain hb2.drew hb3); have e2 := (hb3.cell (p := ⟨w.heap.size, 2, none⟩) (by show w.heap.size < _; simp; omega)).trans d2; have Hn := Lib.hid hn; clear hn)
            | (go_at_call 48; refine (cn _ _ _ (hr.later hb4) Hn.out).mono ?_; rintro e w3 ⟨rfl, hb5⟩; have hl2 := hb3.size; have e3 := (hb5.cell (p := ⟨w.heap.size, 2, none⟩) (by show w.heap.size < _; simp at hl2; omega)).trans e2))
        all_goals (go_wp2; go_ret; exact ⟨ret_bool (by rw [H3.out]), chain hb4 hb5⟩)
      · have H3 := Lib.hid (show wantB x = false by rw [H2.out, decide_eq_false hv, Bool.false_and])
        have hv2 : decide (0 < x.vals.length) = false := decide_eq_false hv
        have hv3 : decide ((0 : Int) < (x.vals.length : Int)) = false := decide_eq_false (by omega)
        clear H2 hv
        go_enter Tryd.func30, Tryd.ntmps30
        go_wp2_with fail
        refine (ck _ (hm.later hb1)).mono ?_
        rintro e w1 ⟨rfl, hb2⟩
        have d1 : w1.cell? ⟨w.heap.size, 1, none⟩ = some (.string x.how) := (hb2.cell (p := ⟨w.heap.size, 1, none⟩) (by show w.heap.size < _; simp)).trans (cell_new _ _ _ _)
        have d2 : w1.cell? ⟨w.heap.size, 2, none⟩ = some (.slice a x.vals.length c) := (hb2.cell (p := ⟨w.heap.size, 2, none⟩) (by show w.heap.size < _; simp)).trans (cell_new _ _ _ _)
        have hl1 := hb2.size
        simp at hl1
        go_wp2
        go_quiet (fail)
        go_wp2
        go_ret
        exact ⟨ret_bool H3.out.symm, chain hb1 (chain hb2 (drewN_below _ _))⟩
    · by_cases n2 : x.how = notS
      · have H2 := Lib.hid (show wantB x = (decide (0 < x.vals.length) && valsB x.vals) by rw [H.out, if_pos (.inr n2)])
        have t1 := how_no how_lists.1 n1
        have t2 := how_yes how_lists.2.1 n2
        clear H n1 n2
        by_cases hv : 0 < x.vals.length
        · have H3 := Lib.hid (show wantB x = valsB x.vals by rw [H2.out, decide_eq_true hv, Bool.true_and])
          have hv2 : decide (0 < x.vals.length) = true := decide_eq_true hv
          have hv3 : decide ((0 : Int) < (x.vals.length : Int)) = true := decide_eq_true (by omega)
          have cn := fun k cap w hr hp => conT_any B a c x.vals (by omega) k cap (fun x => !(nam.valB x.data.toList)) w hr hp
          rw [vals_any] at cn
          generalize valsB x.vals = z at *
          clear H2 hv
          go_enter Tryd.func30, Tryd.ntmps30
          go_wp2_with fail
          refine (ck _ (hm.later hb1)).mono ?_
          rintro e w1 ⟨rfl, hb2⟩
          have d1 : w1.cell? ⟨w.heap.size, 1, none⟩ = some (.string x.how) := (hb2.cell (p := ⟨w.heap.size, 1, none⟩) (by show w.heap.size < _; simp)).trans (cell_new _ _ _ _)
          have d2 : w1.cell? ⟨w.heap.size, 2, none⟩ = some (.slice a x.vals.length c) := (hb2.cell (p := ⟨w.heap.size, 2, none⟩) (by show w.heap.size < _; simp)).trans (cell_new _ _ _ _)
          have hl1 := hb2.size
          simp at hl1
          go_wp2
          go_region_held3 (fun w' => w'.cell? ⟨w.heap.size, 2, none⟩ = some (.slice a x.vals.length c))
            (first | go_keep)
            (first
              | (go_at_call 49; refine (notT_any B 33 #[] (fun x => nam.valB x.data.toList) _ (value_ask B hB _)).mono ?_; rintro e w2 ⟨k, cap, rfl, hn, hb3⟩; have hb4 := chain hb1 (chain hb2.drew hb3); have e2 := (hb3.cell (p := ⟨w.heap.size, 2, none⟩) (by show w.heap.size < _; simp; omega)).trans d2; have Hn := Lib.hid hn; clear hn)
              | (go_at_call 48; refine (cn _ _ _ (hr.later hb4) Hn.out).mono ?_; rintro e w3 ⟨rfl, hb5⟩; have hl2 := hb3.size; have e3 := (hb5.cell (p := ⟨w.heap.size, 2, none⟩) (by show w.heap.size < _; simp at hl2; omega)).trans e2))
          all_goals (go_wp2; go_ret; exact ⟨ret_bool (by rw [H3.out]), chain hb4 hb5⟩)
        · have H3 := Lib.hid (show wantB x = false by rw [H2.out, decide_eq_false hv, Bool.false_and])
          have hv2 : decide (0 < x.vals.length) = false := decide_eq_false hv
          have hv3 : decide ((0 : Int) < (x.vals.length : Int)) = false := decide_eq_false (by omega)
          clear H2 hv
          go_enter Tryd.func30, Tryd.ntmps30
          go_wp2_with fail
          refine (ck _ (hm.later hb1)).mono ?_
          rintro e w1 ⟨rfl, hb2⟩
          have d1 : w1.cell? ⟨w.heap.size, 1, none⟩ = some (.string x.how) := (hb2.cell (p := ⟨w.heap.size, 1, none⟩) (by show w.heap.size < _; simp)).trans (cell_new _ _ _ _)
          have d2 : w1.cell? ⟨w.heap.size, 2, none⟩ = some (.slice a x.vals.length c) := (hb2.cell (p := ⟨w.heap.size, 2, none⟩) (by show w.heap.size < _; simp)).trans (cell_new _ _ _ _)
          have hl1 := hb2.size
          simp at hl1
          go_wp2
          go_quiet (fail)
          go_wp2
          go_ret
          exact ⟨ret_bool H3.out.symm, chain hb1 (chain hb2 (drewN_below _ _))⟩
      · by_cases n3 : x.how = thereS
        · have H2 := Lib.hid (show wantB x = decide (x.vals.length = 0) by rw [H.out, if_neg (fun e => e.elim n1 n2), if_pos (.inl n3)])
          have t1 := how_no how_lists.1 n1
          have t2 := how_no how_lists.2.1 n2
          have t3 := how_yes how_lists.2.2.1 n3
          clear H n1 n2 n3
          go_enter Tryd.func30, Tryd.ntmps30
          go_wp2_with fail
          refine (ck _ (hm.later hb1)).mono ?_
          rintro e w1 ⟨rfl, hb2⟩
          have d1 : w1.cell? ⟨w.heap.size, 1, none⟩ = some (.string x.how) := (hb2.cell (p := ⟨w.heap.size, 1, none⟩) (by show w.heap.size < _; simp)).trans (cell_new _ _ _ _)
          have d2 : w1.cell? ⟨w.heap.size, 2, none⟩ = some (.slice a x.vals.length c) := (hb2.cell (p := ⟨w.heap.size, 2, none⟩) (by show w.heap.size < _; simp)).trans (cell_new _ _ _ _)
          have hl1 := hb2.size
          simp at hl1
          go_wp2
          go_ret
          exact ⟨ret_bool (len_zero H2.out), chain hb1 hb2⟩
        · by_cases n4 : x.how = goneS
          · have H2 := Lib.hid (show wantB x = decide (x.vals.length = 0) by rw [H.out, if_neg (fun e => e.elim n1 n2), if_pos (.inr n4)])
            have t1 := how_no how_lists.1 n1
            have t2 := how_no how_lists.2.1 n2
            have t3 := how_no how_lists.2.2.1 n3
            have t4 := how_yes how_lists.2.2.2 n4
            clear H n1 n2 n3 n4
            go_enter Tryd.func30, Tryd.ntmps30
            go_wp2_with fail
            refine (ck _ (hm.later hb1)).mono ?_
            rintro e w1 ⟨rfl, hb2⟩
            have d1 : w1.cell? ⟨w.heap.size, 1, none⟩ = some (.string x.how) := (hb2.cell (p := ⟨w.heap.size, 1, none⟩) (by show w.heap.size < _; simp)).trans (cell_new _ _ _ _)
            have d2 : w1.cell? ⟨w.heap.size, 2, none⟩ = some (.slice a x.vals.length c) := (hb2.cell (p := ⟨w.heap.size, 2, none⟩) (by show w.heap.size < _; simp)).trans (cell_new _ _ _ _)
            have hl1 := hb2.size
            simp at hl1
            go_wp2
            go_ret
            exact ⟨ret_bool (len_zero H2.out), chain hb1 hb2⟩
          · have H2 := Lib.hid (show wantB x = false by rw [H.out, if_neg (fun e => e.elim n1 n2), if_neg (fun e => e.elim n3 n4)])
            have t1 := how_no how_lists.1 n1
            have t2 := how_no how_lists.2.1 n2
            have t3 := how_no how_lists.2.2.1 n3
            have t4 := how_no how_lists.2.2.2 n4
            clear H n1 n2 n3 n4
            go_enter Tryd.func30, Tryd.ntmps30
            go_wp2_with fail
            refine (ck _ (hm.later hb1)).mono ?_
            rintro e w1 ⟨rfl, hb2⟩
            have d1 : w1.cell? ⟨w.heap.size, 1, none⟩ = some (.string x.how) := (hb2.cell (p := ⟨w.heap.size, 1, none⟩) (by show w.heap.size < _; simp)).trans (cell_new _ _ _ _)
            have d2 : w1.cell? ⟨w.heap.size, 2, none⟩ = some (.slice a x.vals.length c) := (hb2.cell (p := ⟨w.heap.size, 2, none⟩) (by show w.heap.size < _; simp)).trans (cell_new _ _ _ _)
            have hl1 := hb2.size
            simp at hl1
            go_wp2
            go_ret
            exact ⟨ret_bool H2.out.symm, chain hb1 hb2⟩
end Go.Proofs.YtodobacgbbpmfaaDoor.lab
