/- Layer 8: of the document: resource. -/
import Derived.Test.YthflpgeonllgdaaDoorRulRMay
namespace Go.Proofs.YthflpgeonllgdaaDoor.rul
open Go.RowKit Go.Proofs.YthflpgeonllgdaaDoor.rep Go.Proofs.YthflpgeonllgdaaDoor.lab

theorem refRes_one (x : List UInt8) : refRes [x] = (starL x || plainL x) := by
  unfold refRes
  cases h1 : starL x <;> cases h2 : plainL x <;> simp [h1, h2]
theorem refRes_two (x y : List UInt8) : refRes [x, y] = ((starL x || plainL x) && plainL y) := by
  unfold refRes
  cases h1 : starL x <;> cases h2 : plainL x <;> simp [h1, h2]
theorem refRes_more (x y z : List UInt8) (t : List (List UInt8)) : refRes (x :: y :: z :: t) = false := by
  unfold refRes
  simp
set_option maxHeartbeats 1000000 in
theorem rresource_any (s : ByteArray) (hs : s.size ≤ 1048576) (w : World) :
    Calls Tryd.prog 34 #[.string s] w fun e w' => e = .returned (.bool (resE s.data.toList)) ∧ Below w.heap.size w w' := by
  obtain ⟨R, hR⟩ : ∃ R, refRes (nam.spl 47 s.data.toList) = R := ⟨_, rfl⟩
  rw [← refRes_eq, hR]
  have HR := Lib.hid hR
  clear hR
  go_enter Tryd.func34, Tryd.ntmps34
  go_wp2_with fail
  refine (nam.rSplit47 s (by omega) _).mono ?_
  rintro e w1 ⟨g, cap, ps, rfl, hps, hrow, hb1⟩
  have hsz := fun (x : ByteArray) (hx : x ∈ ps) => nam.piece_size hps hx
  have hR := HR.out
  rw [← hps] at hR
  have hne : ps ≠ [] := fun h => nam.spl_ne 47 s.data.toList (by rw [← hps, h]; rfl)
  have hc := fun k h => (hrow.cellAt k (by omega)).trans (nam.strs_get ps k h)
  clear hps hrow
  rcases ps with _ | ⟨x, t⟩
  · exact absurd rfl hne
  · have c0 : w1.cell? ⟨g, 0, none⟩ = some (.string x) := hc 0 (by simp)
    have hx := hsz x (by simp)
    have cx := fun w => rplain_any x (by omega) w
    have e0 := starR_l x
    rcases t with _ | ⟨y, t⟩
    · have H := Lib.hid (show R = ((x.toList == [42]) || plainL x.data.toList) by rw [← hR, ← e0]; exact refRes_one _)
      generalize plainL x.data.toList = b1 at *
      clear hc hsz hne e0 hR HR
      simp only [List.length_cons, List.length_nil, Nat.zero_add]
      cases e1 : (x.toList == [42]) with
      | true =>
        rw [e1] at H
        cases b1 <;>
        · go_wp2_with fail
          refine (cx _).mono ?_
          rintro e w2 ⟨rfl, rfl⟩
          go_wp2
          go_ret
          exact ⟨ret_bool H.out.symm, hb1⟩
      | false =>
        rw [e1] at H
        cases b1 <;>
        · go_wp2_with fail
          refine (cx _).mono ?_
          rintro e w2 ⟨rfl, rfl⟩
          go_wp2
          go_ret
          exact ⟨ret_bool H.out.symm, hb1⟩
    · rcases t with _ | ⟨z, t⟩
      · have c1 : w1.cell? ⟨g, 1, none⟩ = some (.string y) := hc 1 (by simp)
        have hy := hsz y (by simp)
        have cy := fun w => rplain_any y (by omega) w
        have H := Lib.hid (show R = (((x.toList == [42]) || plainL x.data.toList) && plainL y.data.toList) by rw [← hR, ← e0]; exact refRes_two _ _)
        generalize plainL x.data.toList = b1 at *
        generalize plainL y.data.toList = b2 at *
        clear hc hsz hne e0 hR HR
        simp only [List.length_cons, List.length_nil, Nat.zero_add]
        cases e1 : (x.toList == [42]) with
        | true =>
          rw [e1] at H
          cases b1 <;>
          · go_wp2_with fail
            refine (cx _).mono ?_
            rintro e w2 ⟨rfl, rfl⟩
            go_wp2_with fail
            refine (cy _).mono ?_
            rintro e w2 ⟨rfl, rfl⟩
            go_wp2
            go_ret
            exact ⟨ret_bool H.out.symm, hb1⟩
        | false =>
          rw [e1] at H
          cases b1 with
          | true =>
            go_wp2_with fail
            refine (cx _).mono ?_
            rintro e w2 ⟨rfl, rfl⟩
            go_wp2_with fail
            refine (cy _).mono ?_
            rintro e w2 ⟨rfl, rfl⟩
            go_wp2
            go_ret
            exact ⟨ret_bool H.out.symm, hb1⟩
          | false =>
            go_wp2_with fail
            refine (cx _).mono ?_
            rintro e w2 ⟨rfl, rfl⟩
            go_wp2
            go_ret
            exact ⟨ret_bool H.out.symm, hb1⟩
      · have H := Lib.hid (show R = false by rw [← hR]; exact refRes_more _ _ _ _)
        generalize plainL x.data.toList = b1 at *
        have hn : (2 : Int) < ((x :: y :: z :: t).length : Int) := by simp only [List.length_cons]; omega
        clear hc hsz hne e0 hR HR
        generalize (x :: y :: z :: t).length = n at *
        cases e1 : (x.toList == [42]) <;> cases b1 <;>
        · go_wp2_with fail
          refine (cx _).mono ?_
          rintro e w2 ⟨rfl, rfl⟩
          go_wp2
          go_ret
          exact ⟨ret_bool H.out.symm, hb1⟩
end Go.Proofs.YthflpgeonllgdaaDoor.rul
