/- Layer 4: the document's own SameItems. -/
import Derived.Test.YteocenjneoclbaaDoorTrmFew
import Derived.Test.YteocenjneoclbaaDoorTrmItEq
namespace Go.Proofs.YteocenjneoclbaaDoor.tre
open Go.RowKit Go.Shelf Go.BigFrame

/-- These items stand in this slice. -/
def RowAt (W : World) (p : Sl) (l : List It) : Prop :=
  p.n = l.length ∧ ∀ i (h : i < l.length), ∃ g, p.a = some ⟨g, 0, none⟩ ∧ g < W.heap.size ∧ ∀ j u, (cellsI l[i])[j]? = some u → W.cell? ⟨g, i * 5 + j, none⟩ = some u
theorem RowAt.later {W w : World} {p : Sl} {l : List It} (h : RowAt W p l) (hb : Below W.heap.size W w) : RowAt w p l :=
  ⟨h.1, fun i hi => by
    obtain ⟨g, h1, h2, h3⟩ := h.2 i hi
    exact ⟨g, h1, Nat.lt_of_lt_of_le h2 hb.size, fun j u hu => (hb.cell (p := ⟨g, i * 5 + j, none⟩) (by exact h2)).trans (h3 j u hu)⟩⟩
theorem RowAt.of_own {w : World} {B : Nat} {sl : Sl} {l : List It} (h : w.ownsRow B 55 5 (.slice sl.a sl.n sl.c) l.length (flatI l)) : RowAt w sl l := by
  obtain ⟨a, n, c⟩ := sl
  have h' := h
  rcases h.2 with ⟨hv, hn⟩ | ⟨g, cap, cur, hv, _, hg, _⟩
  · obtain rfl : l = [] := List.eq_nil_of_length_eq_zero hn
    injection hv with _ hv2 _
    exact ⟨hv2, fun i hi => by cases hi⟩
  · injection hv with hv1 hv2 hv3
    subst hv1 hv2 hv3
    refine ⟨rfl, fun i hi => ⟨g, rfl, (Array.getElem?_eq_some_iff.1 hg).1, fun j u hu => ?_⟩⟩
    have h2 := own_items h' i hi j u hu
    rw [Nat.zero_mul, Nat.zero_add] at h2
    exact h2

set_option maxRecDepth 100000 in
set_option maxHeartbeats 1000000 in
theorem SameItems_any (a b : List It) (hna : a.length ≤ 100000) (hnb : b.length ≤ 100000) (p q : Sl) (W : World) (ha : RowAt W p a) (hb : RowAt W q b) :
    Calls Tryd.prog 8 #[.slice p.a p.n p.c, .slice q.a q.n q.c] W fun e w' => (∃ r, e = .returned (.bool r) ∧ (r = true ↔ a = b)) ∧ Below W.heap.size W w' := by
  obtain ⟨pa, pn, pc⟩ := p
  obtain ⟨qa, qn, qc⟩ := q
  obtain ⟨hpn, ha⟩ := ha
  obtain ⟨hqn, hb⟩ := hb
  simp only at hpn hqn ha hb
  subst hpn hqn
  have H := Lib.hid (And.intro ha hb)
  clear ha hb
  by_cases hl : a.length = b.length
  · have hlb : ((a.length : Int) != (b.length : Int)) = false := by rw [hl]; simp
    have Hl := Lib.hid hl
    clear hl
    go_enter Tryd.func8, Tryd.ntmps8
    go_wp2
    go_loopg [5] a.length (fun gg s5 wr => ∃ i : Nat, i ≤ a.length ∧ a.length - i ≤ gg ∧ s5 = .int .i64 i ∧ Hid (a.take i = b.take i ∧ Below W.heap.size W wr))
    case atStart => exact ⟨0, Nat.zero_le _, by omega, rfl, rfl, Below.refl _ _⟩
    case round =>
      obtain ⟨i, hil, hgg, rfl, HH⟩ := hrel
      by_cases hlt : i < a.length
      · have hltz : (i : Int) < (a.length : Int) := by omega
        have hlt2 : i < b.length := by have := Hl.out; omega
        have hltz2 : (i : Int) < (b.length : Int) := by omega
        obtain ⟨g1, h1, hg1, c1⟩ := (RowAt.later (p := ⟨pa, a.length, pc⟩) ⟨rfl, H.out.1⟩ HH.out.2).2 i hlt
        obtain ⟨g2, h2, hg2, c2⟩ := (RowAt.later (p := ⟨qa, b.length, qc⟩) ⟨rfl, H.out.2⟩ HH.out.2).2 i hlt2
        simp only at h1 h2
        subst h1 h2
        have Hn := Lib.hid (show ¬ a[i] = b[i] → ¬ a = b from fun h e => h (by subst e; rfl))
        have Htk := Lib.hid (fun h => take_eq_snoc hlt hlt2 HH.out.1 h)
        generalize a[i] = x at c1 Hn Htk
        generalize b[i] = y at c2 Hn Htk
        have x0 : wr.cell? ⟨g1, i * 5, none⟩ = some (.int .i64 x.d) := c1 0 _ rfl
        have x1 : wr.cell? ⟨g1, i * 5 + 1, none⟩ = some (.int .i64 x.kind) := c1 1 _ rfl
        have x2 : wr.cell? ⟨g1, i * 5 + 2, none⟩ = some (.int .i64 x.int) := c1 2 _ rfl
        have x3 : wr.cell? ⟨g1, i * 5 + 3, none⟩ = some (.string x.key) := c1 3 _ rfl
        have x4 : wr.cell? ⟨g1, i * 5 + 4, none⟩ = some (.string x.text) := c1 4 _ rfl
        have y0 : wr.cell? ⟨g2, i * 5, none⟩ = some (.int .i64 y.d) := c2 0 _ rfl
        have y1 : wr.cell? ⟨g2, i * 5 + 1, none⟩ = some (.int .i64 y.kind) := c2 1 _ rfl
        have y2 : wr.cell? ⟨g2, i * 5 + 2, none⟩ = some (.int .i64 y.int) := c2 2 _ rfl
        have y3 : wr.cell? ⟨g2, i * 5 + 3, none⟩ = some (.string y.key) := c2 3 _ rfl
        have y4 : wr.cell? ⟨g2, i * 5 + 4, none⟩ = some (.string y.text) := c2 4 _ rfl
        clear c1 c2 hlt2
        cases hk : itemB x y with
        | false =>
          have Hk := Lib.hid (Hn.out (fun e => by rw [(itemB_iff x y).2 e] at hk; cases hk))
          clear hlt
          go_wp2_with fail
          refine wp_region_quiet_lit (by kernel_rfl) (by kernel_rfl) ?_
          repeat (go_big_quiet_step (fail))
          go_big_quiet_want
          refine quiet_items (.tmp 20) (.tmp 24) _ x y rfl rfl rfl ?_
          go_big_quiet_on
          rw [hk]
          refine wpQuiet_nil ?_
          intro _ hw'
          obtain ⟨nq, hw''⟩ := hw'
          subst hw''
          go_wp2
          go_ret
          have hbq : Below W.heap.size W (wr.drewN nq) := ⟨HH.out.2.os, HH.out.2.tape, HH.out.2.output, HH.out.2.size, HH.out.2.block⟩
          exact ⟨⟨false, rfl, by simp; exact Hk.out⟩, hbq⟩
        | true =>
          have Hk := Lib.hid (Htk.out ((itemB_iff x y).1 hk))
          go_wp2_with fail
          refine wp_region_quiet_lit (by kernel_rfl) (by kernel_rfl) ?_
          repeat (go_big_quiet_step (fail))
          go_big_quiet_want
          refine quiet_items (.tmp 20) (.tmp 24) _ x y rfl rfl rfl ?_
          go_big_quiet_on
          rw [hk]
          refine wpQuiet_nil ?_
          intro _ hw'
          obtain ⟨nq, hw''⟩ := hw'
          subst hw''
          go_wp2
          go_roundg (a.length - (i + 1))
          case measure => omega
          case rel =>
            have hbq : Below W.heap.size W (wr.drewN nq) := ⟨HH.out.2.os, HH.out.2.tape, HH.out.2.output, HH.out.2.size, HH.out.2.block⟩
            exact ⟨i + 1, by omega, by omega, by go_num, Hk.out, hbq⟩
      · obtain rfl : i = a.length := by omega
        go_wp2
        go_ret
        exact ⟨⟨true, rfl, ⟨fun _ => by
          have h := HH.out.1
          rw [List.take_length, Hl.out, List.take_length] at h
          exact h, fun _ => rfl⟩⟩, HH.out.2⟩
  · have hlb : ((a.length : Int) != (b.length : Int)) = true := by simp; omega
    have Hl := Lib.hid (show ¬ a = b from fun e => hl (by rw [e]))
    clear hl
    go_enter Tryd.func8, Tryd.ntmps8
    go_wp2
    go_ret
    exact ⟨⟨false, rfl, by simp; exact Hl.out⟩, Below.refl _ _⟩
end Go.Proofs.YteocenjneoclbaaDoor.tre
