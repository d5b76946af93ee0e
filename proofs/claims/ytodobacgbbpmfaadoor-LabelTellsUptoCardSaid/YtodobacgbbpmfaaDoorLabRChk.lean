/- Layer 7: of the document: want, Check, Selects. -/
import Derived.Test.YtodobacgbbpmfaaDoorLabRLbl
namespace Go.Proofs.YtodobacgbbpmfaaDoor.lab
open Go.RowKit Go.Proofs.YtodobacgbbpmfaaDoor.rep Go.Proofs.YtodobacgbbpmfaaDoor.nam

/-- As the document asks it. -/
def restB (x : Wt) : Bool := if x.how = inS ∨ x.how = notS then decide (0 < x.vals.length) else if x.how = thereS ∨ x.how = goneS then decide (x.vals.length = 0) else false
theorem want_no {x : Wt} (h : keyB x.key.data.toList = true) {k : Nat} (hk : k < x.vals.length) (hv : valB x.vals[k].data.toList = false) : wantB x = false := by
  have hn : valsB x.vals = false := by
    unfold valsB
    rw [List.all_eq_false]
    exact ⟨_, List.getElem_mem hk, by rw [hv]; decide⟩
  unfold wantB
  rw [h, hn, Bool.and_false, Bool.true_and]
  split
  · rfl
  · split
    · exact decide_eq_false (by omega)
    · rfl
theorem want_yes {x : Wt} (h : keyB x.key.data.toList = true) (hv : ∀ k (hk : k < x.vals.length), valB x.vals[k].data.toList = true) : wantB x = restB x := by
  have hn : valsB x.vals = true := by
    unfold valsB
    rw [List.all_eq_true]
    intro y hy
    obtain ⟨k, hk, rfl⟩ := List.getElem_of_mem hy
    exact hv k hk
  unfold wantB restB
  rw [h, hn, Bool.and_true, Bool.true_and]
set_option maxHeartbeats 2000000 in
theorem rwant_any (B : Nat) (hB : B ≤ 2000000) (x : Wt) (u : Value) (h1 : x.key.size ≤ B) (w : World) (hu : RowAt B (text B) w u x.vals) :
    Calls Tryd.prog 31 #[.agg #[.string x.key, .string x.how, u]] w fun e w' => e = .returned (.bool (wantB x)) ∧ Below w.heap.size w w' := by
  obtain ⟨a, c, rfl, _, hc, hlB, hr⟩ := hu
  have hb1 := below_new w (.cells #[.string x.key, .string x.how, .slice a x.vals.length c] 37)
  have ck := fun w => rLabelKey_any x.key (by omega) w
  cases hk : keyB x.key.data.toList with
  | false =>
    have H := Lib.hid (show wantB x = false by unfold wantB; rw [hk]; rfl)
    rw [hk] at ck
    clear hk
    go_enter Tryd.func31, Tryd.ntmps31
    go_wp2_with fail
    refine (ck _).mono ?_
    rintro e w1 ⟨rfl, hb2⟩
    go_wp2
    go_ret
    exact ⟨ret_bool H.out.symm, chain hb1 hb2⟩
  | true =>
    have Hk := Lib.hid hk
    rw [hk] at ck
    clear hk
    go_enter Tryd.func31, Tryd.ntmps31
    go_wp2_with fail
    refine (ck _).mono ?_
    rintro e w1 ⟨rfl, hb2⟩
    have d1 : w1.cell? ⟨w.heap.size, 1, none⟩ = some (.string x.how) := (hb2.cell (p := ⟨w.heap.size, 1, none⟩) (by show w.heap.size < _; simp)).trans (cell_new _ _ _ _)
    have d2 : w1.cell? ⟨w.heap.size, 2, none⟩ = some (.slice a x.vals.length c) := (hb2.cell (p := ⟨w.heap.size, 2, none⟩) (by show w.heap.size < _; simp)).trans (cell_new _ _ _ _)
    have hl1 : w.heap.size < w1.heap.size := by have := hb2.size; simp at this; omega
    have hb12 := chain hb1 hb2
    have Hr := Lib.hid (hr.later hb12)
    clear hr ck
    go_wp2
    go_loop [4] (fun v => ∃ k : Nat, k ≤ x.vals.length ∧ v = .int .i64 k ∧ Hid (∀ j, j < k → ∀ (hj : j < x.vals.length), valB x.vals[j].data.toList = true)) (fun v => x.vals.length - (intOf v).toNat)
    case atStart => exact ⟨0, by omega, rfl, fun j hj => by omega⟩
    case round =>
      obtain ⟨k, hk, rfl, Ha⟩ := hrel
      by_cases hlt : k < x.vals.length
      · obtain ⟨b, off, rfl, hbl, cs, hat, hcell⟩ := Hr.out.get hlt
        obtain ⟨hcs, hx⟩ := hat
        subst hcs
        have c0 : w1.cell? ⟨b, off + k, none⟩ = some (.string x.vals[k]) := by have := hcell 0 _ rfl; simpa [text] using this
        clear hcell
        have cv := fun w => rLabelValue_any x.vals[k] (by unfold maxLen; omega) w
        cases hv : valB x.vals[k].data.toList with
        | false =>
          have H := Lib.hid (want_no Hk.out hlt hv)
          rw [hv] at cv
          clear hv Ha
          go_wp2_with fail
          refine (cv _).mono ?_
          rintro e w4 ⟨rfl, rfl⟩
          go_wp2
          go_ret
          exact ⟨ret_bool H.out.symm, hb12⟩
        | true =>
          have Hn := Lib.hid (show ∀ j, j < k + 1 → ∀ (hj : j < x.vals.length), valB x.vals[j].data.toList = true from fun j hjk hj => by
            by_cases e : j = k
            · subst e; exact hv
            · exact Ha.out j (by omega) hj)
          rw [hv] at cv
          clear hv Ha
          go_wp2_with fail
          refine (cv _).mono ?_
          rintro e w4 ⟨rfl, rfl⟩
          go_wp2
          go_round
          case rel => exact ⟨k + 1, by omega, by go_num, Hn⟩
          case measure => simp [intOf]; omega
      · have H := Lib.hid (want_yes Hk.out fun j hj => Ha.out j (by omega) hj)
        clear Ha
        by_cases n1 : x.how = inS
        · have H2 := Lib.hid (show wantB x = decide (0 < x.vals.length) by rw [H.out]; unfold restB; rw [if_pos (.inl n1)])
          have t1 := how_yes how_lists.1 n1
          clear H n1
          go_wp2
          go_ret
          exact ⟨ret_bool (H2.out.symm), hb12⟩
        · by_cases n2 : x.how = notS
          · have H2 := Lib.hid (show wantB x = decide (0 < x.vals.length) by rw [H.out]; unfold restB; rw [if_pos (.inr n2)])
            have t1 := how_no how_lists.1 n1
            have t2 := how_yes how_lists.2.1 n2
            clear H n1 n2
            go_wp2
            go_ret
            exact ⟨ret_bool (H2.out.symm), hb12⟩
          · by_cases n3 : x.how = thereS
            · have H2 := Lib.hid (show wantB x = decide (x.vals.length = 0) by rw [H.out]; unfold restB; rw [if_neg (fun e => e.elim n1 n2), if_pos (.inl n3)])
              have t1 := how_no how_lists.1 n1
              have t2 := how_no how_lists.2.1 n2
              have t3 := how_yes how_lists.2.2.1 n3
              clear H n1 n2 n3
              go_wp2
              go_ret
              exact ⟨ret_bool (len_zero H2.out), hb12⟩
            · by_cases n4 : x.how = goneS
              · have H2 := Lib.hid (show wantB x = decide (x.vals.length = 0) by rw [H.out]; unfold restB; rw [if_neg (fun e => e.elim n1 n2), if_pos (.inr n4)])
                have t1 := how_no how_lists.1 n1
                have t2 := how_no how_lists.2.1 n2
                have t3 := how_no how_lists.2.2.1 n3
                have t4 := how_yes how_lists.2.2.2 n4
                clear H n1 n2 n3 n4
                go_wp2
                go_ret
                exact ⟨ret_bool (len_zero H2.out), hb12⟩
              · have H2 := Lib.hid (show wantB x = false by rw [H.out]; unfold restB; rw [if_neg (fun e => e.elim n1 n2), if_neg (fun e => e.elim n3 n4)])
                have t1 := how_no how_lists.1 n1
                have t2 := how_no how_lists.2.1 n2
                have t3 := how_no how_lists.2.2.1 n3
                have t4 := how_no how_lists.2.2.2 n4
                clear H n1 n2 n3 n4
                go_wp2
                go_ret
                exact ⟨ret_bool (H2.out.symm), hb12⟩

set_option maxHeartbeats 2000000 in
theorem rCheck_any (B : Nat) (hB : B ≤ 2000000) (s : Sel) (u t : Value) (w : World) (hu : RowAt B (prR B) w u s.labels) (ht : RowAt B (wtR B) w t s.wants) :
    Calls Tryd.prog 17 #[.agg #[u, t]] w fun e w' => e = .returned (.bool (checkB s)) ∧ Below w.heap.size w w' := by
  obtain ⟨au, cu, rfl, _, hcu, hlu, hru⟩ := hu
  obtain ⟨at_, ct, rfl, _, hct, hlt, hrt⟩ := ht
  have hb1 := below_new w (.cells #[.slice au s.labels.length cu, .slice at_ s.wants.length ct] 25)
  have C0 := Lib.hid (show ∀ W, Below (w.alloc (.cells #[.slice au s.labels.length cu, .slice at_ s.wants.length ct] 25)).heap.size (w.alloc (.cells #[.slice au s.labels.length cu, .slice at_ s.wants.length ct] 25)) W →
    W.cell? ⟨w.heap.size, 0, none⟩ = some (.slice au s.labels.length cu) ∧ W.cell? ⟨w.heap.size, 1, none⟩ = some (.slice at_ s.wants.length ct) from fun W hW =>
      ⟨(hW.cell (p := ⟨w.heap.size, 0, none⟩) (by show w.heap.size < _; simp)).trans (cell_new _ _ _ _), (hW.cell (p := ⟨w.heap.size, 1, none⟩) (by show w.heap.size < _; simp)).trans (cell_new _ _ _ _)⟩)
  have cl := fun w hr => rLabels_any B hB au cu s.labels (by omega) w hr
  have Hru := Lib.hid hru
  have Hrt := Lib.hid hrt
  clear hru hrt
  go_enter Tryd.func17, Tryd.ntmps17
  go_wp2
  go_loopw [3] (fun v wr => ∃ k : Nat, k ≤ s.wants.length ∧ v = .int .i64 k ∧ Hid (∀ j, j < k → ∀ (hj : j < s.wants.length), wantB s.wants[j] = true) ∧ Below (w.alloc (.cells #[.slice au s.labels.length cu, .slice at_ s.wants.length ct] 25)).heap.size (w.alloc (.cells #[.slice au s.labels.length cu, .slice at_ s.wants.length ct] 25)) wr) (fun v _ => s.wants.length - (intOf v).toNat)
  case atStart => exact ⟨0, by omega, rfl, fun j hj => by omega, Below.refl _ _⟩
  case round =>
    obtain ⟨k, hk, rfl, Ha, hbr⟩ := hrel
    obtain ⟨e0, e1⟩ := C0.out wr hbr
    by_cases hlk : k < s.wants.length
    · obtain ⟨b, off, rfl, hbl, cs, hat, hcell⟩ := (Hrt.out.later (chain hb1 hbr)).get hlk
      obtain ⟨y, hcs, hy1, hy2, hy3⟩ := hat
      subst hcs
      have c0 : wr.cell? ⟨b, off + k * 3, none⟩ = some (.string s.wants[k].key) := hcell 0 _ rfl
      have c1 : wr.cell? ⟨b, off + k * 3 + 1, none⟩ = some (.string s.wants[k].how) := hcell 1 _ rfl
      have c2 : wr.cell? ⟨b, off + k * 3 + 2, none⟩ = some y := hcell 2 _ rfl
      clear hcell
      have cw := rwant_any B hB s.wants[k] y hy1 wr hy3
      cases hv : wantB s.wants[k] with
      | false =>
        have H := Lib.hid (show checkB s = false by
          have : s.wants.all wantB = false := List.all_eq_false.2 ⟨_, List.getElem_mem hlk, by rw [hv]; decide⟩
          unfold checkB; rw [this, Bool.and_false])
        rw [hv] at cw
        clear hv Ha
        go_wp2_with fail
        refine cw.mono ?_
        rintro e w2 ⟨rfl, hb2⟩
        go_wp2
        go_ret
        exact ⟨ret_bool H.out.symm, chain (chain hb1 hbr) hb2⟩
      | true =>
        have Hn := Lib.hid (show ∀ j, j < k + 1 → ∀ (hj : j < s.wants.length), wantB s.wants[j] = true from fun j hjk hj => by
          by_cases e : j = k
          · subst e; exact hv
          · exact Ha.out j (by omega) hj)
        rw [hv] at cw
        clear hv Ha
        go_wp2_with fail
        refine cw.mono ?_
        rintro e w2 ⟨rfl, hb2⟩
        have hbr2 := chain hbr hb2
        go_wp2
        go_roundw
        case rel => exact ⟨k + 1, by omega, by go_num, Hn, hbr2⟩
        case measure => simp [intOf]; omega
    · have H := Lib.hid (show checkB s = labelsB s.labels by
        have : s.wants.all wantB = true := by
          rw [List.all_eq_true]
          intro y hy
          obtain ⟨j, hj, rfl⟩ := List.getElem_of_mem hy
          exact Ha.out j (by omega) hj
        unfold checkB; rw [this, Bool.and_true])
      clear Ha
      go_wp2_with fail
      refine (cl _ (Hru.out.later (chain hb1 hbr))).mono ?_
      rintro e w2 ⟨rfl, hb2⟩
      go_wp2
      go_ret
      exact ⟨ret_bool H.out.symm, chain (chain hb1 hbr) hb2⟩
end Go.Proofs.YtodobacgbbpmfaaDoor.lab
