/- Layer 4: fits. -/
import Derived.Test.YtkecimhohmkkkaaDoorTreFit
namespace Go.Proofs.YtkecimhohmkkkaaDoor.tre
open Go.RowKit Go.Shelf

/-- Has a value what its kind asks for, and nothing else? -/
def fitsB (v : V) : Bool := (v.int == 0 || v.kind == 2 || (v.kind == 1 && v.int == 1)) && (v.text.toList.isEmpty || v.kind == 3) && (decide (v.list.length = 0) || v.kind == 4) && (decide (v.fields.length = 0) || v.kind == 5) &&
  (decide (0 ≤ v.kind) && decide (v.kind ≤ 5)) && utf.okB v.text.data.toList && keysB v.fields

set_option maxRecDepth 100000 in
set_option maxHeartbeats 8000000 in
theorem fits_any (v : V) (ht : v.text.size ≤ maxLen) (hk : ∀ x ∈ v.fields, x.1.size ≤ maxLen) (S : Nat → Prop) (W : World) (r t : Sl) (hS : ∀ g, S g → g < W.heap.size) (hh : HV S W v r t) (hT : utf.Tab W) :
    Calls Tryd.prog 51 #[.agg #[.int .i64 v.kind, .int .i64 v.int, .string v.text, .slice r.a r.n r.c, .slice t.a t.n t.c]] W fun e w' => e = .returned (.bool (fitsB v)) ∧ Below W.heap.size W w' := by
  have hb1 : ∀ o, Below W.heap.size W (W.alloc o) := fun o => (Below.refl _ _).alloc (Nat.le_refl _) o
  have cV := fun o => utf.Valid_any v.text ht (W.alloc o) (hT.self (hb1 o))
  have cK := fun o w1 (hb : Below (W.alloc o).heap.size (W.alloc o) w1) => keysFit_any v.fields hk S w1 t (fun g hg => Nat.lt_of_lt_of_le (hS g hg) ((hb1 o).trans (hb.mono (hb1 o).size)).size) ((hh.2.later (hb1 o)).later hb) ((hT.self (hb1 o)).self hb)
  have hn1 := hh.1.len
  have hn2 := hh.2.len
  have c3 : ∀ o cs T, o = .cells cs T (0, 0) → ∀ w1, Below (W.alloc o).heap.size (W.alloc o) w1 → w1.cell? ⟨W.heap.size, 4, none⟩ = cs[4]? := fun o cs T ho w1 hb => by
    rw [hb.cell (by rw [size_alloc]; exact Nat.lt_succ_self _), ho, blk_cell (block_new W _)]
  have Hb := Lib.hid hb1
  have HC := Lib.hid (And.intro cV (And.intro cK c3))
  clear hb1 hh hS hT hk ht cV cK c3
  obtain ⟨ra, rn, rc⟩ := r
  obtain ⟨ta, tn, tc⟩ := t
  simp only at hn1 hn2
  subst hn1
  subst hn2
  by_cases hk0 : v.kind = 0
  · skip
    cases hi0 : (v.int == 0) with
    | true =>
      cases ht0 : v.text.toList.isEmpty with
      | true =>
        by_cases hl0 : v.list.length = 0
        · have hl1 : ¬ (0 : Int) < v.list.length := by omega
          by_cases hf0 : v.fields.length = 0
          · have hf1 : ¬ (0 : Int) < v.fields.length := by omega
            have cV := HC.out.1
            cases ho : utf.okB v.text.data.toList with
            | false =>
              have H := Lib.hid (show fitsB v = false by simp [fitsB, *])
              rw [ho] at cV
              clear ho
              go_enter Tryd.func51, Tryd.ntmps51
              go_wp2_with fail
              refine (cV _).mono ?_
              rintro e w1 ⟨rfl, hb⟩
              go_wp2
              go_ret
              rw [H.out]
              exact ⟨rfl, (Hb.out _).trans (hb.mono (Hb.out _).size)⟩
            | true =>
              have H := Lib.hid (show fitsB v = keysB v.fields by simp [fitsB, *])
              rw [ho] at cV
              clear ho
              go_enter Tryd.func51, Tryd.ntmps51
              go_wp2_with fail
              refine (cV _).mono ?_
              rintro e w1 ⟨rfl, hb⟩
              have c4 := HC.out.2.2 _ _ _ rfl w1 hb
              have cK := HC.out.2.1 _ w1 hb
              rw [hf0] at cK
              clear cV
              go_wp2_with fail
              refine cK.mono ?_
              rintro e w2 ⟨rfl, hb2⟩
              go_wp2
              go_ret
              rw [H.out]
              exact ⟨rfl, (Hb.out _).trans ((hb.trans (hb2.mono hb.size)).mono (Hb.out _).size)⟩
          · have hf1 : (0 : Int) < v.fields.length := by omega
            have H := Lib.hid (show fitsB v = false by simp [fitsB, *])
            clear HC
            go_enter Tryd.func51, Tryd.ntmps51
            go_wp2
            go_ret
            rw [H.out]
            exact ⟨rfl, Hb.out _⟩
        · have hl1 : (0 : Int) < v.list.length := by omega
          have H := Lib.hid (show fitsB v = false by simp [fitsB, *])
          clear HC
          go_enter Tryd.func51, Tryd.ntmps51
          go_wp2
          go_ret
          rw [H.out]
          exact ⟨rfl, Hb.out _⟩
      | false =>
        have H := Lib.hid (show fitsB v = false by simp [fitsB, *])
        clear HC
        go_enter Tryd.func51, Tryd.ntmps51
        go_wp2
        go_ret
        rw [H.out]
        exact ⟨rfl, Hb.out _⟩
    | false =>
      have hi9 : ¬ v.int = 0 := by simpa using hi0
      have H := Lib.hid (show fitsB v = false by simp [fitsB, *])
      clear HC
      go_enter Tryd.func51, Tryd.ntmps51
      go_wp2
      go_ret
      rw [H.out]
      exact ⟨rfl, Hb.out _⟩
  by_cases hk1 : v.kind = 1
  · skip
    cases hi0 : (v.int == 0) with
    | true =>
      cases ht0 : v.text.toList.isEmpty with
      | true =>
        by_cases hl0 : v.list.length = 0
        · have hl1 : ¬ (0 : Int) < v.list.length := by omega
          by_cases hf0 : v.fields.length = 0
          · have hf1 : ¬ (0 : Int) < v.fields.length := by omega
            have cV := HC.out.1
            cases ho : utf.okB v.text.data.toList with
            | false =>
              have H := Lib.hid (show fitsB v = false by simp [fitsB, *])
              rw [ho] at cV
              clear ho
              go_enter Tryd.func51, Tryd.ntmps51
              go_wp2_with fail
              refine (cV _).mono ?_
              rintro e w1 ⟨rfl, hb⟩
              go_wp2
              go_ret
              rw [H.out]
              exact ⟨rfl, (Hb.out _).trans (hb.mono (Hb.out _).size)⟩
            | true =>
              have H := Lib.hid (show fitsB v = keysB v.fields by simp [fitsB, *])
              rw [ho] at cV
              clear ho
              go_enter Tryd.func51, Tryd.ntmps51
              go_wp2_with fail
              refine (cV _).mono ?_
              rintro e w1 ⟨rfl, hb⟩
              have c4 := HC.out.2.2 _ _ _ rfl w1 hb
              have cK := HC.out.2.1 _ w1 hb
              rw [hf0] at cK
              clear cV
              go_wp2_with fail
              refine cK.mono ?_
              rintro e w2 ⟨rfl, hb2⟩
              go_wp2
              go_ret
              rw [H.out]
              exact ⟨rfl, (Hb.out _).trans ((hb.trans (hb2.mono hb.size)).mono (Hb.out _).size)⟩
          · have hf1 : (0 : Int) < v.fields.length := by omega
            have H := Lib.hid (show fitsB v = false by simp [fitsB, *])
            clear HC
            go_enter Tryd.func51, Tryd.ntmps51
            go_wp2
            go_ret
            rw [H.out]
            exact ⟨rfl, Hb.out _⟩
        · have hl1 : (0 : Int) < v.list.length := by omega
          have H := Lib.hid (show fitsB v = false by simp [fitsB, *])
          clear HC
          go_enter Tryd.func51, Tryd.ntmps51
          go_wp2
          go_ret
          rw [H.out]
          exact ⟨rfl, Hb.out _⟩
      | false =>
        have H := Lib.hid (show fitsB v = false by simp [fitsB, *])
        clear HC
        go_enter Tryd.func51, Tryd.ntmps51
        go_wp2
        go_ret
        rw [H.out]
        exact ⟨rfl, Hb.out _⟩
    | false =>
      have hi9 : ¬ v.int = 0 := by simpa using hi0
      cases hi1 : (v.int == 1) with
      | true =>
        cases ht0 : v.text.toList.isEmpty with
        | true =>
          by_cases hl0 : v.list.length = 0
          · have hl1 : ¬ (0 : Int) < v.list.length := by omega
            by_cases hf0 : v.fields.length = 0
            · have hf1 : ¬ (0 : Int) < v.fields.length := by omega
              have cV := HC.out.1
              cases ho : utf.okB v.text.data.toList with
              | false =>
                have H := Lib.hid (show fitsB v = false by simp [fitsB, *])
                rw [ho] at cV
                clear ho
                go_enter Tryd.func51, Tryd.ntmps51
                go_wp2_with fail
                refine (cV _).mono ?_
                rintro e w1 ⟨rfl, hb⟩
                go_wp2
                go_ret
                rw [H.out]
                exact ⟨rfl, (Hb.out _).trans (hb.mono (Hb.out _).size)⟩
              | true =>
                have H := Lib.hid (show fitsB v = keysB v.fields by simp [fitsB, *])
                rw [ho] at cV
                clear ho
                go_enter Tryd.func51, Tryd.ntmps51
                go_wp2_with fail
                refine (cV _).mono ?_
                rintro e w1 ⟨rfl, hb⟩
                have c4 := HC.out.2.2 _ _ _ rfl w1 hb
                have cK := HC.out.2.1 _ w1 hb
                rw [hf0] at cK
                clear cV
                go_wp2_with fail
                refine cK.mono ?_
                rintro e w2 ⟨rfl, hb2⟩
                go_wp2
                go_ret
                rw [H.out]
                exact ⟨rfl, (Hb.out _).trans ((hb.trans (hb2.mono hb.size)).mono (Hb.out _).size)⟩
            · have hf1 : (0 : Int) < v.fields.length := by omega
              have H := Lib.hid (show fitsB v = false by simp [fitsB, *])
              clear HC
              go_enter Tryd.func51, Tryd.ntmps51
              go_wp2
              go_ret
              rw [H.out]
              exact ⟨rfl, Hb.out _⟩
          · have hl1 : (0 : Int) < v.list.length := by omega
            have H := Lib.hid (show fitsB v = false by simp [fitsB, *])
            clear HC
            go_enter Tryd.func51, Tryd.ntmps51
            go_wp2
            go_ret
            rw [H.out]
            exact ⟨rfl, Hb.out _⟩
        | false =>
          have H := Lib.hid (show fitsB v = false by simp [fitsB, *])
          clear HC
          go_enter Tryd.func51, Tryd.ntmps51
          go_wp2
          go_ret
          rw [H.out]
          exact ⟨rfl, Hb.out _⟩
      | false =>
        have hi8 : ¬ v.int = 1 := by simpa using hi1
        have H := Lib.hid (show fitsB v = false by simp [fitsB, *])
        clear HC
        go_enter Tryd.func51, Tryd.ntmps51
        go_wp2
        go_ret
        rw [H.out]
        exact ⟨rfl, Hb.out _⟩
  by_cases hk2 : v.kind = 2
  · skip
    cases hi0 : (v.int == 0) with
    | true =>
      cases ht0 : v.text.toList.isEmpty with
      | true =>
        by_cases hl0 : v.list.length = 0
        · have hl1 : ¬ (0 : Int) < v.list.length := by omega
          by_cases hf0 : v.fields.length = 0
          · have hf1 : ¬ (0 : Int) < v.fields.length := by omega
            have cV := HC.out.1
            cases ho : utf.okB v.text.data.toList with
            | false =>
              have H := Lib.hid (show fitsB v = false by simp [fitsB, *])
              rw [ho] at cV
              clear ho
              go_enter Tryd.func51, Tryd.ntmps51
              go_wp2_with fail
              refine (cV _).mono ?_
              rintro e w1 ⟨rfl, hb⟩
              go_wp2
              go_ret
              rw [H.out]
              exact ⟨rfl, (Hb.out _).trans (hb.mono (Hb.out _).size)⟩
            | true =>
              have H := Lib.hid (show fitsB v = keysB v.fields by simp [fitsB, *])
              rw [ho] at cV
              clear ho
              go_enter Tryd.func51, Tryd.ntmps51
              go_wp2_with fail
              refine (cV _).mono ?_
              rintro e w1 ⟨rfl, hb⟩
              have c4 := HC.out.2.2 _ _ _ rfl w1 hb
              have cK := HC.out.2.1 _ w1 hb
              rw [hf0] at cK
              clear cV
              go_wp2_with fail
              refine cK.mono ?_
              rintro e w2 ⟨rfl, hb2⟩
              go_wp2
              go_ret
              rw [H.out]
              exact ⟨rfl, (Hb.out _).trans ((hb.trans (hb2.mono hb.size)).mono (Hb.out _).size)⟩
          · have hf1 : (0 : Int) < v.fields.length := by omega
            have H := Lib.hid (show fitsB v = false by simp [fitsB, *])
            clear HC
            go_enter Tryd.func51, Tryd.ntmps51
            go_wp2
            go_ret
            rw [H.out]
            exact ⟨rfl, Hb.out _⟩
        · have hl1 : (0 : Int) < v.list.length := by omega
          have H := Lib.hid (show fitsB v = false by simp [fitsB, *])
          clear HC
          go_enter Tryd.func51, Tryd.ntmps51
          go_wp2
          go_ret
          rw [H.out]
          exact ⟨rfl, Hb.out _⟩
      | false =>
        have H := Lib.hid (show fitsB v = false by simp [fitsB, *])
        clear HC
        go_enter Tryd.func51, Tryd.ntmps51
        go_wp2
        go_ret
        rw [H.out]
        exact ⟨rfl, Hb.out _⟩
    | false =>
      have hi9 : ¬ v.int = 0 := by simpa using hi0
      cases ht0 : v.text.toList.isEmpty with
      | true =>
        by_cases hl0 : v.list.length = 0
        · have hl1 : ¬ (0 : Int) < v.list.length := by omega
          by_cases hf0 : v.fields.length = 0
          · have hf1 : ¬ (0 : Int) < v.fields.length := by omega
            have cV := HC.out.1
            cases ho : utf.okB v.text.data.toList with
            | false =>
              have H := Lib.hid (show fitsB v = false by simp [fitsB, *])
              rw [ho] at cV
              clear ho
              go_enter Tryd.func51, Tryd.ntmps51
              go_wp2_with fail
              refine (cV _).mono ?_
              rintro e w1 ⟨rfl, hb⟩
              go_wp2
              go_ret
              rw [H.out]
              exact ⟨rfl, (Hb.out _).trans (hb.mono (Hb.out _).size)⟩
            | true =>
              have H := Lib.hid (show fitsB v = keysB v.fields by simp [fitsB, *])
              rw [ho] at cV
              clear ho
              go_enter Tryd.func51, Tryd.ntmps51
              go_wp2_with fail
              refine (cV _).mono ?_
              rintro e w1 ⟨rfl, hb⟩
              have c4 := HC.out.2.2 _ _ _ rfl w1 hb
              have cK := HC.out.2.1 _ w1 hb
              rw [hf0] at cK
              clear cV
              go_wp2_with fail
              refine cK.mono ?_
              rintro e w2 ⟨rfl, hb2⟩
              go_wp2
              go_ret
              rw [H.out]
              exact ⟨rfl, (Hb.out _).trans ((hb.trans (hb2.mono hb.size)).mono (Hb.out _).size)⟩
          · have hf1 : (0 : Int) < v.fields.length := by omega
            have H := Lib.hid (show fitsB v = false by simp [fitsB, *])
            clear HC
            go_enter Tryd.func51, Tryd.ntmps51
            go_wp2
            go_ret
            rw [H.out]
            exact ⟨rfl, Hb.out _⟩
        · have hl1 : (0 : Int) < v.list.length := by omega
          have H := Lib.hid (show fitsB v = false by simp [fitsB, *])
          clear HC
          go_enter Tryd.func51, Tryd.ntmps51
          go_wp2
          go_ret
          rw [H.out]
          exact ⟨rfl, Hb.out _⟩
      | false =>
        have H := Lib.hid (show fitsB v = false by simp [fitsB, *])
        clear HC
        go_enter Tryd.func51, Tryd.ntmps51
        go_wp2
        go_ret
        rw [H.out]
        exact ⟨rfl, Hb.out _⟩
  by_cases hk3 : v.kind = 3
  · skip
    cases hi0 : (v.int == 0) with
    | true =>
      cases ht0 : v.text.toList.isEmpty with
      | true =>
        by_cases hl0 : v.list.length = 0
        · have hl1 : ¬ (0 : Int) < v.list.length := by omega
          by_cases hf0 : v.fields.length = 0
          · have hf1 : ¬ (0 : Int) < v.fields.length := by omega
            have cV := HC.out.1
            cases ho : utf.okB v.text.data.toList with
            | false =>
              have H := Lib.hid (show fitsB v = false by simp [fitsB, *])
              rw [ho] at cV
              clear ho
              go_enter Tryd.func51, Tryd.ntmps51
              go_wp2_with fail
              refine (cV _).mono ?_
              rintro e w1 ⟨rfl, hb⟩
              go_wp2
              go_ret
              rw [H.out]
              exact ⟨rfl, (Hb.out _).trans (hb.mono (Hb.out _).size)⟩
            | true =>
              have H := Lib.hid (show fitsB v = keysB v.fields by simp [fitsB, *])
              rw [ho] at cV
              clear ho
              go_enter Tryd.func51, Tryd.ntmps51
              go_wp2_with fail
              refine (cV _).mono ?_
              rintro e w1 ⟨rfl, hb⟩
              have c4 := HC.out.2.2 _ _ _ rfl w1 hb
              have cK := HC.out.2.1 _ w1 hb
              rw [hf0] at cK
              clear cV
              go_wp2_with fail
              refine cK.mono ?_
              rintro e w2 ⟨rfl, hb2⟩
              go_wp2
              go_ret
              rw [H.out]
              exact ⟨rfl, (Hb.out _).trans ((hb.trans (hb2.mono hb.size)).mono (Hb.out _).size)⟩
          · have hf1 : (0 : Int) < v.fields.length := by omega
            have H := Lib.hid (show fitsB v = false by simp [fitsB, *])
            clear HC
            go_enter Tryd.func51, Tryd.ntmps51
            go_wp2
            go_ret
            rw [H.out]
            exact ⟨rfl, Hb.out _⟩
        · have hl1 : (0 : Int) < v.list.length := by omega
          have H := Lib.hid (show fitsB v = false by simp [fitsB, *])
          clear HC
          go_enter Tryd.func51, Tryd.ntmps51
          go_wp2
          go_ret
          rw [H.out]
          exact ⟨rfl, Hb.out _⟩
      | false =>
        by_cases hl0 : v.list.length = 0
        · have hl1 : ¬ (0 : Int) < v.list.length := by omega
          by_cases hf0 : v.fields.length = 0
          · have hf1 : ¬ (0 : Int) < v.fields.length := by omega
            have cV := HC.out.1
            cases ho : utf.okB v.text.data.toList with
            | false =>
              have H := Lib.hid (show fitsB v = false by simp [fitsB, *])
              rw [ho] at cV
              clear ho
              go_enter Tryd.func51, Tryd.ntmps51
              go_wp2_with fail
              refine (cV _).mono ?_
              rintro e w1 ⟨rfl, hb⟩
              go_wp2
              go_ret
              rw [H.out]
              exact ⟨rfl, (Hb.out _).trans (hb.mono (Hb.out _).size)⟩
            | true =>
              have H := Lib.hid (show fitsB v = keysB v.fields by simp [fitsB, *])
              rw [ho] at cV
              clear ho
              go_enter Tryd.func51, Tryd.ntmps51
              go_wp2_with fail
              refine (cV _).mono ?_
              rintro e w1 ⟨rfl, hb⟩
              have c4 := HC.out.2.2 _ _ _ rfl w1 hb
              have cK := HC.out.2.1 _ w1 hb
              rw [hf0] at cK
              clear cV
              go_wp2_with fail
              refine cK.mono ?_
              rintro e w2 ⟨rfl, hb2⟩
              go_wp2
              go_ret
              rw [H.out]
              exact ⟨rfl, (Hb.out _).trans ((hb.trans (hb2.mono hb.size)).mono (Hb.out _).size)⟩
          · have hf1 : (0 : Int) < v.fields.length := by omega
            have H := Lib.hid (show fitsB v = false by simp [fitsB, *])
            clear HC
            go_enter Tryd.func51, Tryd.ntmps51
            go_wp2
            go_ret
            rw [H.out]
            exact ⟨rfl, Hb.out _⟩
        · have hl1 : (0 : Int) < v.list.length := by omega
          have H := Lib.hid (show fitsB v = false by simp [fitsB, *])
          clear HC
          go_enter Tryd.func51, Tryd.ntmps51
          go_wp2
          go_ret
          rw [H.out]
          exact ⟨rfl, Hb.out _⟩
    | false =>
      have hi9 : ¬ v.int = 0 := by simpa using hi0
      have H := Lib.hid (show fitsB v = false by simp [fitsB, *])
      clear HC
      go_enter Tryd.func51, Tryd.ntmps51
      go_wp2
      go_ret
      rw [H.out]
      exact ⟨rfl, Hb.out _⟩
  by_cases hk4 : v.kind = 4
  · skip
    cases hi0 : (v.int == 0) with
    | true =>
      cases ht0 : v.text.toList.isEmpty with
      | true =>
        by_cases hl0 : v.list.length = 0
        · have hl1 : ¬ (0 : Int) < v.list.length := by omega
          by_cases hf0 : v.fields.length = 0
          · have hf1 : ¬ (0 : Int) < v.fields.length := by omega
            have cV := HC.out.1
            cases ho : utf.okB v.text.data.toList with
            | false =>
              have H := Lib.hid (show fitsB v = false by simp [fitsB, *])
              rw [ho] at cV
              clear ho
              go_enter Tryd.func51, Tryd.ntmps51
              go_wp2_with fail
              refine (cV _).mono ?_
              rintro e w1 ⟨rfl, hb⟩
              go_wp2
              go_ret
              rw [H.out]
              exact ⟨rfl, (Hb.out _).trans (hb.mono (Hb.out _).size)⟩
            | true =>
              have H := Lib.hid (show fitsB v = keysB v.fields by simp [fitsB, *])
              rw [ho] at cV
              clear ho
              go_enter Tryd.func51, Tryd.ntmps51
              go_wp2_with fail
              refine (cV _).mono ?_
              rintro e w1 ⟨rfl, hb⟩
              have c4 := HC.out.2.2 _ _ _ rfl w1 hb
              have cK := HC.out.2.1 _ w1 hb
              rw [hf0] at cK
              clear cV
              go_wp2_with fail
              refine cK.mono ?_
              rintro e w2 ⟨rfl, hb2⟩
              go_wp2
              go_ret
              rw [H.out]
              exact ⟨rfl, (Hb.out _).trans ((hb.trans (hb2.mono hb.size)).mono (Hb.out _).size)⟩
          · have hf1 : (0 : Int) < v.fields.length := by omega
            have H := Lib.hid (show fitsB v = false by simp [fitsB, *])
            clear HC
            go_enter Tryd.func51, Tryd.ntmps51
            go_wp2
            go_ret
            rw [H.out]
            exact ⟨rfl, Hb.out _⟩
        · have hl1 : (0 : Int) < v.list.length := by omega
          by_cases hf0 : v.fields.length = 0
          · have hf1 : ¬ (0 : Int) < v.fields.length := by omega
            have cV := HC.out.1
            cases ho : utf.okB v.text.data.toList with
            | false =>
              have H := Lib.hid (show fitsB v = false by simp [fitsB, *])
              rw [ho] at cV
              clear ho
              go_enter Tryd.func51, Tryd.ntmps51
              go_wp2_with fail
              refine (cV _).mono ?_
              rintro e w1 ⟨rfl, hb⟩
              go_wp2
              go_ret
              rw [H.out]
              exact ⟨rfl, (Hb.out _).trans (hb.mono (Hb.out _).size)⟩
            | true =>
              have H := Lib.hid (show fitsB v = keysB v.fields by simp [fitsB, *])
              rw [ho] at cV
              clear ho
              go_enter Tryd.func51, Tryd.ntmps51
              go_wp2_with fail
              refine (cV _).mono ?_
              rintro e w1 ⟨rfl, hb⟩
              have c4 := HC.out.2.2 _ _ _ rfl w1 hb
              have cK := HC.out.2.1 _ w1 hb
              rw [hf0] at cK
              clear cV
              go_wp2_with fail
              refine cK.mono ?_
              rintro e w2 ⟨rfl, hb2⟩
              go_wp2
              go_ret
              rw [H.out]
              exact ⟨rfl, (Hb.out _).trans ((hb.trans (hb2.mono hb.size)).mono (Hb.out _).size)⟩
          · have hf1 : (0 : Int) < v.fields.length := by omega
            have H := Lib.hid (show fitsB v = false by simp [fitsB, *])
            clear HC
            go_enter Tryd.func51, Tryd.ntmps51
            go_wp2
            go_ret
            rw [H.out]
            exact ⟨rfl, Hb.out _⟩
      | false =>
        have H := Lib.hid (show fitsB v = false by simp [fitsB, *])
        clear HC
        go_enter Tryd.func51, Tryd.ntmps51
        go_wp2
        go_ret
        rw [H.out]
        exact ⟨rfl, Hb.out _⟩
    | false =>
      have hi9 : ¬ v.int = 0 := by simpa using hi0
      have H := Lib.hid (show fitsB v = false by simp [fitsB, *])
      clear HC
      go_enter Tryd.func51, Tryd.ntmps51
      go_wp2
      go_ret
      rw [H.out]
      exact ⟨rfl, Hb.out _⟩
  by_cases hk5 : v.kind = 5
  · skip
    cases hi0 : (v.int == 0) with
    | true =>
      cases ht0 : v.text.toList.isEmpty with
      | true =>
        by_cases hl0 : v.list.length = 0
        · have hl1 : ¬ (0 : Int) < v.list.length := by omega
          by_cases hf0 : v.fields.length = 0
          · have hf1 : ¬ (0 : Int) < v.fields.length := by omega
            have cV := HC.out.1
            cases ho : utf.okB v.text.data.toList with
            | false =>
              have H := Lib.hid (show fitsB v = false by simp [fitsB, *])
              rw [ho] at cV
              clear ho
              go_enter Tryd.func51, Tryd.ntmps51
              go_wp2_with fail
              refine (cV _).mono ?_
              rintro e w1 ⟨rfl, hb⟩
              go_wp2
              go_ret
              rw [H.out]
              exact ⟨rfl, (Hb.out _).trans (hb.mono (Hb.out _).size)⟩
            | true =>
              have H := Lib.hid (show fitsB v = keysB v.fields by simp [fitsB, *])
              rw [ho] at cV
              clear ho
              go_enter Tryd.func51, Tryd.ntmps51
              go_wp2_with fail
              refine (cV _).mono ?_
              rintro e w1 ⟨rfl, hb⟩
              have c4 := HC.out.2.2 _ _ _ rfl w1 hb
              have cK := HC.out.2.1 _ w1 hb
              rw [hf0] at cK
              clear cV
              go_wp2_with fail
              refine cK.mono ?_
              rintro e w2 ⟨rfl, hb2⟩
              go_wp2
              go_ret
              rw [H.out]
              exact ⟨rfl, (Hb.out _).trans ((hb.trans (hb2.mono hb.size)).mono (Hb.out _).size)⟩
          · have hf1 : (0 : Int) < v.fields.length := by omega
            have cV := HC.out.1
            cases ho : utf.okB v.text.data.toList with
            | false =>
              have H := Lib.hid (show fitsB v = false by simp [fitsB, *])
              rw [ho] at cV
              clear ho
              go_enter Tryd.func51, Tryd.ntmps51
              go_wp2_with fail
              refine (cV _).mono ?_
              rintro e w1 ⟨rfl, hb⟩
              go_wp2
              go_ret
              rw [H.out]
              exact ⟨rfl, (Hb.out _).trans (hb.mono (Hb.out _).size)⟩
            | true =>
              have H := Lib.hid (show fitsB v = keysB v.fields by simp [fitsB, *])
              rw [ho] at cV
              clear ho
              go_enter Tryd.func51, Tryd.ntmps51
              go_wp2_with fail
              refine (cV _).mono ?_
              rintro e w1 ⟨rfl, hb⟩
              have c4 := HC.out.2.2 _ _ _ rfl w1 hb
              have cK := HC.out.2.1 _ w1 hb
              clear cV
              go_wp2_with fail
              refine cK.mono ?_
              rintro e w2 ⟨rfl, hb2⟩
              go_wp2
              go_ret
              rw [H.out]
              exact ⟨rfl, (Hb.out _).trans ((hb.trans (hb2.mono hb.size)).mono (Hb.out _).size)⟩
        · have hl1 : (0 : Int) < v.list.length := by omega
          have H := Lib.hid (show fitsB v = false by simp [fitsB, *])
          clear HC
          go_enter Tryd.func51, Tryd.ntmps51
          go_wp2
          go_ret
          rw [H.out]
          exact ⟨rfl, Hb.out _⟩
      | false =>
        have H := Lib.hid (show fitsB v = false by simp [fitsB, *])
        clear HC
        go_enter Tryd.func51, Tryd.ntmps51
        go_wp2
        go_ret
        rw [H.out]
        exact ⟨rfl, Hb.out _⟩
    | false =>
      have hi9 : ¬ v.int = 0 := by simpa using hi0
      have H := Lib.hid (show fitsB v = false by simp [fitsB, *])
      clear HC
      go_enter Tryd.func51, Tryd.ntmps51
      go_wp2
      go_ret
      rw [H.out]
      exact ⟨rfl, Hb.out _⟩
  have hkf : (v.kind == 0) = false ∧ (v.kind == 1) = false ∧ (v.kind == 2) = false ∧ (v.kind == 3) = false ∧ (v.kind == 4) = false ∧ (v.kind == 5) = false := by simp [hk0, hk1, hk2, hk3, hk4, hk5]
  obtain ⟨f0, f1, f2, f3, f4, f5⟩ := hkf
  by_cases hlo : 0 ≤ v.kind
  · have d0 : decide (0 ≤ v.kind) = true := decide_eq_true hlo
    have hhi : 5 < v.kind := by omega
    have d1 : decide (v.kind ≤ 5) = false := decide_eq_false (by omega)
    clear hk0 hk1 hk2 hk3 hk4 hk5
    cases hi0 : (v.int == 0) with
    | true =>
      cases ht0 : v.text.toList.isEmpty with
      | true =>
        by_cases hl0 : v.list.length = 0
        · have hl1 : ¬ (0 : Int) < v.list.length := by omega
          by_cases hf0 : v.fields.length = 0
          · have hf1 : ¬ (0 : Int) < v.fields.length := by omega
            have H := Lib.hid (show fitsB v = false by simp [fitsB, *])
            clear HC
            go_enter Tryd.func51, Tryd.ntmps51
            go_wp2
            go_ret
            rw [H.out]
            exact ⟨rfl, Hb.out _⟩
          · have hf1 : (0 : Int) < v.fields.length := by omega
            have H := Lib.hid (show fitsB v = false by simp [fitsB, *])
            clear HC
            go_enter Tryd.func51, Tryd.ntmps51
            go_wp2
            go_ret
            rw [H.out]
            exact ⟨rfl, Hb.out _⟩
        · have hl1 : (0 : Int) < v.list.length := by omega
          have H := Lib.hid (show fitsB v = false by simp [fitsB, *])
          clear HC
          go_enter Tryd.func51, Tryd.ntmps51
          go_wp2
          go_ret
          rw [H.out]
          exact ⟨rfl, Hb.out _⟩
      | false =>
        have H := Lib.hid (show fitsB v = false by simp [fitsB, *])
        clear HC
        go_enter Tryd.func51, Tryd.ntmps51
        go_wp2
        go_ret
        rw [H.out]
        exact ⟨rfl, Hb.out _⟩
    | false =>
      have hi9 : ¬ v.int = 0 := by simpa using hi0
      have H := Lib.hid (show fitsB v = false by simp [fitsB, *])
      clear HC
      go_enter Tryd.func51, Tryd.ntmps51
      go_wp2
      go_ret
      rw [H.out]
      exact ⟨rfl, Hb.out _⟩
  · have d0 : decide (0 ≤ v.kind) = false := decide_eq_false hlo
    clear hk0 hk1 hk2 hk3 hk4 hk5
    cases hi0 : (v.int == 0) with
    | true =>
      cases ht0 : v.text.toList.isEmpty with
      | true =>
        by_cases hl0 : v.list.length = 0
        · have hl1 : ¬ (0 : Int) < v.list.length := by omega
          by_cases hf0 : v.fields.length = 0
          · have hf1 : ¬ (0 : Int) < v.fields.length := by omega
            have H := Lib.hid (show fitsB v = false by simp [fitsB, *])
            clear HC
            go_enter Tryd.func51, Tryd.ntmps51
            go_wp2
            go_ret
            rw [H.out]
            exact ⟨rfl, Hb.out _⟩
          · have hf1 : (0 : Int) < v.fields.length := by omega
            have H := Lib.hid (show fitsB v = false by simp [fitsB, *])
            clear HC
            go_enter Tryd.func51, Tryd.ntmps51
            go_wp2
            go_ret
            rw [H.out]
            exact ⟨rfl, Hb.out _⟩
        · have hl1 : (0 : Int) < v.list.length := by omega
          have H := Lib.hid (show fitsB v = false by simp [fitsB, *])
          clear HC
          go_enter Tryd.func51, Tryd.ntmps51
          go_wp2
          go_ret
          rw [H.out]
          exact ⟨rfl, Hb.out _⟩
      | false =>
        have H := Lib.hid (show fitsB v = false by simp [fitsB, *])
        clear HC
        go_enter Tryd.func51, Tryd.ntmps51
        go_wp2
        go_ret
        rw [H.out]
        exact ⟨rfl, Hb.out _⟩
    | false =>
      have hi9 : ¬ v.int = 0 := by simpa using hi0
      have H := Lib.hid (show fitsB v = false by simp [fitsB, *])
      clear HC
      go_enter Tryd.func51, Tryd.ntmps51
      go_wp2
      go_ret
      rw [H.out]
      exact ⟨rfl, Hb.out _⟩
end Go.Proofs.YtkecimhohmkkkaaDoor.tre
