/- Layer 7: of the document: Labels, want, Check. -/
import Derived.Test.YtodobacgbbpmfaaDoorLabRWts
import Derived.Test.YtodobacgbbpmfaaDoorNamRefS
namespace Go.Proofs.YtodobacgbbpmfaaDoor.lab
open Go.RowKit Go.Proofs.YtodobacgbbpmfaaDoor.rep Go.Proofs.YtodobacgbbpmfaaDoor.nam

theorem take_any {l : List Pr} {i : Nat} {p : Pr → Bool} (h : ∀ j, j < i → ∀ (hj : j < l.length), p l[j] = false) : (l.take i).any p = false := by
  refine any_false fun j hj => ?_
  have h1 : j < i := by simp at hj; omega
  have h2 : j < l.length := by simp at hj; omega
  rw [List.getElem_take]
  exact h j h1 h2
theorem take_hit {l : List Pr} {i j : Nat} {p : Pr → Bool} (hij : j < i) (hj : j < l.length) (h : p l[j] = true) : (l.take i).any p = true :=
  List.any_eq_true.2 ⟨l[j], List.mem_take_iff_getElem.2 ⟨j, by omega, rfl⟩, h⟩
set_option maxHeartbeats 2000000 in
theorem rLabels_any (B : Nat) (hB : B ≤ 2000000) (a : Option Addr) (c : Nat) (l : List Pr) (hl : l.length ≤ 140737488355328) (w : World) (hr : RowIn (prR B) w a l) :
    Calls Tryd.prog 19 #[.slice a l.length c] w fun e w' => e = .returned (.bool (labelsB l)) ∧ Below w.heap.size w w' := by
  have Hr := Lib.hid hr
  clear hr
  go_enter Tryd.func19, Tryd.ntmps19
  go_wp2
  go_loopw [3] (fun v wr => ∃ k : Nat, k ≤ l.length ∧ v = .int .i64 k ∧ Hid (∀ i, i < k → okAt l i = true) ∧ Below w.heap.size w wr) (fun v _ => l.length - (intOf v).toNat)
  case atStart => exact ⟨0, by omega, rfl, fun i hi => by omega, Below.refl _ _⟩
  case round =>
    obtain ⟨k, hk, rfl, Ha, hbr⟩ := hrel
    obtain ⟨wo, rfl⟩ : ∃ w', w' = wr := ⟨wr, rfl⟩
    by_cases hlt : k < l.length
    · obtain ⟨b, off, rfl, hbl, cs, hat, hcell⟩ := (Hr.out.later hbr).get hlt
      obtain ⟨hcs, hx1, hx2⟩ := hat
      subst hcs
      have c0 : wo.cell? ⟨b, off + k * 2, none⟩ = some (.string l[k].key) := hcell 0 _ rfl
      have c1 : wo.cell? ⟨b, off + k * 2 + 1, none⟩ = some (.string l[k].value) := hcell 1 _ rfl
      clear hcell
      have hat := okAt_eq hlt
      unfold okP at hat
      have ck := fun w => rLabelKey_any l[k].key (by omega) w
      have cv := fun w => rLabelValue_any l[k].value (by unfold maxLen; omega) w
      have Hoff := Lib.hid (show ∀ W, Below wo.heap.size wo W → ∀ j (hj : j < l.length), W.cell? ⟨b, off + j * 2, none⟩ = some (.string l[j].key) from fun W hW j hj => by
        obtain ⟨b', off', e, _, cs, hat, hcell⟩ := ((Hr.out.later hbr).later hW).get hj
        simp only [Option.some.injEq, Addr.mk.injEq, and_true] at e
        obtain ⟨rfl, rfl⟩ := e
        obtain ⟨hcs, _⟩ := hat
        subst hcs
        exact hcell 0 _ rfl)
      cases hk1 : keyB l[k].key.data.toList with
      | false =>
        have Hn := Lib.hid (labels_no hlt (by rw [hat, hk1]; rfl))
        rw [hk1] at ck
        clear hat Ha hk1
        generalize valB l[k].value.data.toList = z at *
        go_wp2_with fail
        refine (ck _).mono ?_
        rintro e w3 ⟨rfl, hb3⟩
        have d1 : w3.cell? ⟨b, off + k * 2 + 1, none⟩ = some (.string l[k].value) := (hb3.cell (p := ⟨b, off + k * 2 + 1, none⟩) hbl).trans c1
        go_wp2_with fail
        refine (cv _).mono ?_
        rintro e w4 ⟨rfl, rfl⟩
        go_wp2
        go_ret
        exact ⟨ret_bool Hn.out.symm, chain hbr hb3⟩
      | true =>
        cases hv1 : valB l[k].value.data.toList with
        | false =>
          have Hn := Lib.hid (labels_no hlt (by rw [hat, hv1, Bool.and_false]; rfl))
          rw [hk1] at ck
          rw [hv1] at cv
          clear hat Ha hk1 hv1
          go_wp2_with fail
          refine (ck _).mono ?_
          rintro e w3 ⟨rfl, hb3⟩
          have d1 : w3.cell? ⟨b, off + k * 2 + 1, none⟩ = some (.string l[k].value) := (hb3.cell (p := ⟨b, off + k * 2 + 1, none⟩) hbl).trans c1
          go_wp2_with fail
          refine (cv _).mono ?_
          rintro e w4 ⟨rfl, rfl⟩
          go_wp2
          go_ret
          exact ⟨ret_bool Hn.out.symm, chain hbr hb3⟩
        | true =>
          have hat2 := Lib.hid (show okAt l k = !((l.take k).any (keyIs l[k].key)) by rw [hat, hk1, hv1]; rfl)
          rw [hk1] at ck
          rw [hv1] at cv
          clear hat hk1 hv1
          go_wp2_with fail
          refine (ck _).mono ?_
          rintro e w3 ⟨rfl, hb3⟩
          have d1 : w3.cell? ⟨b, off + k * 2 + 1, none⟩ = some (.string l[k].value) := (hb3.cell (p := ⟨b, off + k * 2 + 1, none⟩) hbl).trans c1
          go_wp2_with fail
          refine (cv _).mono ?_
          rintro e w4 ⟨rfl, rfl⟩
          have Hb3 := Lib.hid hb3
          clear c0 c1 d1 ck cv hb3
          go_wp2
          go_loopw [6] (fun v wr => ∃ j : Nat, j ≤ k ∧ v = .int .i64 j ∧ Hid (∀ i, i < j → ∀ (hi : i < l.length), keyIs l[k].key l[i] = false) ∧ Below wo.heap.size wo wr) (fun v _ => k - (intOf v).toNat)
          case atStart => exact ⟨0, by omega, rfl, fun i hi => by omega, Hb3.out⟩
          case round =>
            obtain ⟨j, hj, rfl, Hj, hbj⟩ := hrel
            have hjl : j < l.length := by omega
            by_cases hjk : j < k
            · have e0 := Hoff.out wr hbj k hlt
              have e1 := Hoff.out wr hbj j hjl
              have hjk2 : decide ((j : Int) < (k : Int)) = true := decide_eq_true (by omega)
              cases he : keyIs l[k].key l[j] with
              | true =>
                have he2 : (l[j].key.toList == l[k].key.toList) = true := he
                have Hn := Lib.hid (labels_no hlt (by rw [hat2.out, take_hit hjk hjl he]; rfl))
                clear Ha Hj he
                go_wp2
                go_quiet (fail)
                go_wp2
                go_ret
                exact ⟨ret_bool Hn.out.symm, chain hbr (chain hbj (drewN_below _ _))⟩
              | false =>
                have he2 : (l[j].key.toList == l[k].key.toList) = false := he
                have Hn := Lib.hid (show ∀ i, i < j + 1 → ∀ (hi : i < l.length), keyIs l[k].key l[i] = false from fun i hi hil => by
                  by_cases e : i = j
                  · subst e; exact he
                  · exact Hj.out i (by omega) hil)
                clear Hj he
                go_wp2
                go_quiet (fail)
                go_wp2
                go_roundw
                case rel => exact ⟨j + 1, by omega, by go_num, Hn, chain hbj (drewN_below _ _)⟩
                case measure => simp [intOf]; omega
            · have hjk2 : decide ((j : Int) < (k : Int)) = false := decide_eq_false (by omega)
              have Hn := Lib.hid (show ∀ i, i < k + 1 → okAt l i = true from fun i hi => by
                by_cases e : i = k
                · subst e; rw [hat2.out, take_any fun j hj hjl => Hj.out j (by omega) hjl]; rfl
                · exact Ha.out i (by omega))
              clear Ha Hj
              go_wp2
              go_roundw
              case rel => exact ⟨k + 1, by omega, by go_num, Hn, chain hbr hbj⟩
              case measure => simp [intOf]; omega
    · have Hn := Lib.hid (show labelsB l = true from labels_iff.2 fun i hi => Ha.out i (by omega))
      clear Ha
      go_wp2
      go_ret
      exact ⟨ret_bool Hn.out.symm, hbr⟩
end Go.Proofs.YtodobacgbbpmfaaDoor.lab
