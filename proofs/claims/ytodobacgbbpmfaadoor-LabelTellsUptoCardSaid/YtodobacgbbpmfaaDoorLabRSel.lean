/- Layer 7: of the document: Selects. -/
import Derived.Test.YtodobacgbbpmfaaDoorLabRChk
namespace Go.Proofs.YtodobacgbbpmfaaDoor.lab
open Go.RowKit Go.Proofs.YtodobacgbbpmfaaDoor.rep Go.Proofs.YtodobacgbbpmfaaDoor.nam

theorem sel_noP {s : Sel} {l : List Pr} {k : Nat} (hk : k < s.labels.length) (h : pairB l s.labels[k] = false) : selB s l = false := by
  have : s.labels.all (pairB l) = false := List.all_eq_false.2 ⟨_, List.getElem_mem hk, by rw [h]; decide⟩
  unfold selB; rw [this, Bool.false_and]
theorem sel_noW {s : Sel} {l : List Pr} {k : Nat} (hk : k < s.wants.length) (h : wantsB s.wants[k] l = false) : selB s l = false := by
  have : (s.wants.all fun w => wantsB w l) = false := List.all_eq_false.2 ⟨_, List.getElem_mem hk, by rw [h]; decide⟩
  unfold selB; rw [this, Bool.and_false]
theorem all_of {α : Type} {p : α → Bool} {l : List α} (h : ∀ j (hj : j < l.length), p l[j] = true) : l.all p = true := by
  rw [List.all_eq_true]
  intro y hy
  obtain ⟨j, hj, rfl⟩ := List.getElem_of_mem hy
  exact h j hj
set_option maxHeartbeats 4000000 in
theorem rSelects_any (B : Nat) (hB : B ≤ 140737488355328) (s : Sel) (u t : Value) (a : Option Addr) (c : Nat) (l : List Pr) (hl : l.length ≤ 140737488355328) (w : World) (hu : RowAt B (prR B) w u s.labels) (ht : RowAt B (wtR B) w t s.wants) (hr : RowIn (prR B) w a l) :
    Calls Tryd.prog 21 #[.agg #[u, t], .slice a l.length c] w fun e w' => e = .returned (.bool (selB s l)) ∧ Below w.heap.size w w' := by
  obtain ⟨au, cu, rfl, _, hcu, hlu, hru⟩ := hu
  obtain ⟨at_, ct, rfl, _, hct, hlt, hrt⟩ := ht
  have hb1 := below_new w (.cells #[.slice au s.labels.length cu, .slice at_ s.wants.length ct] 25)
  have C0 := Lib.hid (show ∀ W, Below (w.alloc (.cells #[.slice au s.labels.length cu, .slice at_ s.wants.length ct] 25)).heap.size (w.alloc (.cells #[.slice au s.labels.length cu, .slice at_ s.wants.length ct] 25)) W →
    W.cell? ⟨w.heap.size, 0, none⟩ = some (.slice au s.labels.length cu) ∧ W.cell? ⟨w.heap.size, 1, none⟩ = some (.slice at_ s.wants.length ct) from fun W hW =>
      ⟨(hW.cell (p := ⟨w.heap.size, 0, none⟩) (by show w.heap.size < _; simp)).trans (cell_new _ _ _ _), (hW.cell (p := ⟨w.heap.size, 1, none⟩) (by show w.heap.size < _; simp)).trans (cell_new _ _ _ _)⟩)
  have Hru := Lib.hid hru
  have Hrt := Lib.hid hrt
  have Hr := Lib.hid hr
  clear hru hrt hr
  go_enter Tryd.func21, Tryd.ntmps21
  go_wp2
  go_loopw [5] (fun v wr => ∃ k : Nat, k ≤ s.labels.length ∧ v = .int .i64 k ∧ Hid (∀ j, j < k → ∀ (hj : j < s.labels.length), pairB l s.labels[j] = true) ∧ Below (w.alloc (.cells #[.slice au s.labels.length cu, .slice at_ s.wants.length ct] 25)).heap.size (w.alloc (.cells #[.slice au s.labels.length cu, .slice at_ s.wants.length ct] 25)) wr) (fun v _ => s.labels.length - (intOf v).toNat)
  case atStart => exact ⟨0, by omega, rfl, fun j hj => by omega, Below.refl _ _⟩
  case round =>
    obtain ⟨k, hk, rfl, Ha, hbr⟩ := hrel
    obtain ⟨wo, rfl⟩ : ∃ w', w' = wr := ⟨wr, rfl⟩
    obtain ⟨e0, e1⟩ := C0.out wo hbr
    have hbo := chain hb1 hbr
    have lo := cell_lt e0
    by_cases hlk : k < s.labels.length
    · obtain ⟨b, off, rfl, hbl, cs, hat, hcell⟩ := (Hru.out.later hbo).get hlk
      obtain ⟨hcs, hy1, hy2⟩ := hat
      subst hcs
      have c0 : wo.cell? ⟨b, off + k * 2, none⟩ = some (.string s.labels[k].key) := hcell 0 _ rfl
      have c1 : wo.cell? ⟨b, off + k * 2 + 1, none⟩ = some (.string s.labels[k].value) := hcell 1 _ rfl
      clear hcell
      have ch := rHas_any B a c l hl s.labels[k].key wo (Hr.out.later hbo)
      unfold FoundTo at ch
      have hp : Hid (pairB l s.labels[k] = (hasB l s.labels[k].key && ((hasV l s.labels[k].key).toList == s.labels[k].value.toList))) := rfl
      have Hno := Lib.hid (fun h => sel_noP (l := l) hlk h)
      have Hyes := Lib.hid (show pairB l s.labels[k] = true → ∀ j, j < k + 1 → ∀ (hj : j < s.labels.length), pairB l s.labels[j] = true from fun h j hjk hj => by
        by_cases e : j = k
        · subst e; exact h
        · exact Ha.out j (by omega) hj)
      generalize hasV l s.labels[k].key = v at *
      generalize hasB l s.labels[k].key = is at *
      clear Ha
      cases is with
      | false =>
        have H := Lib.hid (Hno.out (by rw [hp.out]; rfl))
        clear Hno Hyes hp
        go_wp2_with fail
        refine ch.mono ?_
        rintro e w2 ⟨rfl, hb2⟩
        have lo2 := Nat.lt_of_lt_of_le lo hb2.size
        have lb2 := Nat.lt_of_lt_of_le hbl hb2.size
        have f0 := (hb2.cell (p := ⟨w.heap.size, 0, none⟩) lo).trans e0
        have g1 := (hb2.cell (p := ⟨b, off + k * 2 + 1, none⟩) hbl).trans c1
        go_wp2
        go_quiet (fail)
        go_wp2
        go_ret
        exact ⟨ret_bool H.out.symm, chain hbo (chain (chain hb2 (below_new _ _)) (drewN_below _ _))⟩
      | true =>
        cases hv : (v.toList == s.labels[k].value.toList) with
        | false =>
          have H := Lib.hid (Hno.out (by rw [hp.out, hv]; rfl))
          clear Hno Hyes hp
          go_wp2_with fail
          refine ch.mono ?_
          rintro e w2 ⟨rfl, hb2⟩
          have lo2 := Nat.lt_of_lt_of_le lo hb2.size
          have lb2 := Nat.lt_of_lt_of_le hbl hb2.size
          have f0 := (hb2.cell (p := ⟨w.heap.size, 0, none⟩) lo).trans e0
          have g1 := (hb2.cell (p := ⟨b, off + k * 2 + 1, none⟩) hbl).trans c1
          go_wp2
          go_quiet (fail)
          go_wp2
          go_ret
          exact ⟨ret_bool H.out.symm, chain hbo (chain (chain hb2 (below_new _ _)) (drewN_below _ _))⟩
        | true =>
          have Hn := Lib.hid (Hyes.out (by rw [hp.out, hv]; rfl))
          clear Hno Hyes hp
          go_wp2_with fail
          refine ch.mono ?_
          rintro e w2 ⟨rfl, hb2⟩
          have lo2 := Nat.lt_of_lt_of_le lo hb2.size
          have lb2 := Nat.lt_of_lt_of_le hbl hb2.size
          have f0 := (hb2.cell (p := ⟨w.heap.size, 0, none⟩) lo).trans e0
          have g1 := (hb2.cell (p := ⟨b, off + k * 2 + 1, none⟩) hbl).trans c1
          go_wp2
          go_quiet (fail)
          go_wp2
          go_roundw
          case rel => exact ⟨k + 1, by omega, by go_num, Hn, chain hbr (chain (chain hb2 (below_new _ _)) (drewN_below _ _))⟩
          case measure => simp [intOf]; omega
    · have HL := Lib.hid (show s.labels.all (pairB l) = true from all_of fun j hj => Ha.out j (by omega) hj)
      have Hbo := Lib.hid hbr
      clear Ha hbo hbr
      go_wp2
      clear e0 e1 lo
      go_loopw [7] (fun v wr => ∃ k : Nat, k ≤ s.wants.length ∧ v = .int .i64 k ∧ Hid (∀ j, j < k → ∀ (hj : j < s.wants.length), wantsB s.wants[j] l = true) ∧ Below (w.alloc (.cells #[.slice au s.labels.length cu, .slice at_ s.wants.length ct] 25)).heap.size (w.alloc (.cells #[.slice au s.labels.length cu, .slice at_ s.wants.length ct] 25)) wr) (fun v _ => s.wants.length - (intOf v).toNat)
      case atStart => exact ⟨0, by omega, rfl, fun j hj => by omega, Hbo.out⟩
      case round =>
        obtain ⟨k, hk, rfl, Ha, hbr⟩ := hrel
        obtain ⟨e0, e1⟩ := C0.out wr hbr
        have hbo := chain hb1 hbr
        by_cases hlk : k < s.wants.length
        · obtain ⟨b, off, rfl, hbl, cs, hat, hcell⟩ := (Hrt.out.later hbo).get hlk
          obtain ⟨y, hcs, hy1, hy2, hy3⟩ := hat
          subst hcs
          have c0 : wr.cell? ⟨b, off + k * 3, none⟩ = some (.string s.wants[k].key) := hcell 0 _ rfl
          have c1 : wr.cell? ⟨b, off + k * 3 + 1, none⟩ = some (.string s.wants[k].how) := hcell 1 _ rfl
          have c2 : wr.cell? ⟨b, off + k * 3 + 2, none⟩ = some y := hcell 2 _ rfl
          clear hcell
          have cw := rWants_any B s.wants[k] y a c l hl wr hy3 (by obtain ⟨_, _, _, _, _, h, _⟩ := hy3; omega) (Hr.out.later hbo)
          cases hv : wantsB s.wants[k] l with
          | false =>
            have H := Lib.hid (sel_noW hlk hv)
            rw [hv] at cw
            clear hv Ha
            go_wp2_with fail
            refine cw.mono ?_
            rintro e w2 ⟨rfl, hb2⟩
            go_wp2
            go_ret
            exact ⟨ret_bool H.out.symm, chain hbo hb2⟩
          | true =>
            have Hn := Lib.hid (show ∀ j, j < k + 1 → ∀ (hj : j < s.wants.length), wantsB s.wants[j] l = true from fun j hjk hj => by
              by_cases e : j = k
              · subst e; exact hv
              · exact Ha.out j (by omega) hj)
            rw [hv] at cw
            clear hv Ha
            go_wp2_with fail
            refine cw.mono ?_
            rintro e w2 ⟨rfl, hb2⟩
            have hbr2 := chain hbr hb2
            go_wp2
            go_roundw
            case rel => exact ⟨k + 1, by omega, by go_num, Hn, hbr2⟩
            case measure => simp [intOf]; omega
        · have H := Lib.hid (show selB s l = true by
            unfold selB; rw [HL.out, Bool.true_and]
            exact all_of (p := fun w => wantsB w l) fun j hj => Ha.out j (by omega) hj)
          clear Ha
          go_wp2
          go_ret
          exact ⟨ret_bool H.out.symm, hbo⟩
end Go.Proofs.YtodobacgbbpmfaaDoor.lab
