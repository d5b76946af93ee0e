/- Layer 4: the document's own SameTexts. -/
import Derived.Test.YtkecimhohmkkkaaDoorTreEq
import Derived.Test.YtkecimhohmkkkaaDoorTreTexts
namespace Go.Proofs.YtkecimhohmkkkaaDoor.tre
open Go.RowKit Go.Shelf

/-- These texts stand in this slice. -/
def TextAt (W : World) (p : Sl) (l : List ByteArray) : Prop :=
  p.n = l.length ∧ ∀ i (h : i < l.length), ∃ g, p.a = some ⟨g, 0, none⟩ ∧ g < W.heap.size ∧ W.cell? ⟨g, i, none⟩ = some (.string l[i])
theorem TextAt.later {W w : World} {p : Sl} {l : List ByteArray} (h : TextAt W p l) (hb : Below W.heap.size W w) : TextAt w p l :=
  ⟨h.1, fun i hi => by
    obtain ⟨g, h1, h2, h3⟩ := h.2 i hi
    exact ⟨g, h1, Nat.lt_of_lt_of_le h2 hb.size, (hb.cell (p := ⟨g, i, none⟩) (by exact h2)).trans h3⟩⟩
theorem TextAt.of_own {w : World} {B : Nat} {e : TypeId} {sl : Sl} {l : List ByteArray} (h : w.ownsRow B e 1 (.slice sl.a sl.n sl.c) l.length (strs l)) : TextAt w sl l := by
  obtain ⟨a, n, c⟩ := sl
  have h' := h
  rcases h.2 with ⟨hv, hn⟩ | ⟨g, cap, cur, hv, _, hg, _⟩
  · obtain rfl : l = [] := List.eq_nil_of_length_eq_zero hn
    injection hv with _ hv2 _
    exact ⟨hv2, fun i hi => by cases hi⟩
  · injection hv with hv1 hv2 hv3
    subst hv1 hv2 hv3
    refine ⟨rfl, fun i hi => ⟨g, rfl, (Array.getElem?_eq_some_iff.1 hg).1, ?_⟩⟩
    have h2 := h'.cells (g := g) rfl i (.string l[i]) (by simp [strs, hi])
    rw [Addr.add_lit, Nat.zero_add] at h2
    exact h2

set_option maxRecDepth 100000 in
set_option maxHeartbeats 1000000 in
theorem SameTexts_any (a b : List ByteArray) (hna : a.length ≤ 100000) (hnb : b.length ≤ 100000) (p q : Sl) (W : World) (ha : TextAt W p a) (hb : TextAt W q b) :
    Calls Tryd.prog 36 #[.slice p.a p.n p.c, .slice q.a q.n q.c] W fun e w' => (∃ r, e = .returned (.bool r) ∧ (r = true ↔ a = b)) ∧ Below W.heap.size W w' := by
  obtain ⟨pa, pn, pc⟩ := p
  obtain ⟨qa, qn, qc⟩ := q
  obtain ⟨hpn, ha⟩ := ha
  obtain ⟨hqn, hb⟩ := hb
  simp only at hpn hqn ha hb
  subst hpn hqn
  have H := Lib.hid (And.intro ha hb)
  clear ha hb
  by_cases hl : a.length = b.length
  · have hlb : ((a.length : Int) != (b.length : Int)) = false := by rw [hl]; simp
    have Hl := Lib.hid hl
    clear hl
    go_enter Tryd.func36, Tryd.ntmps36
    go_wp2
    go_loopg [5] a.length (fun gg s5 wr => ∃ i : Nat, i ≤ a.length ∧ a.length - i ≤ gg ∧ s5 = .int .i64 i ∧ Hid (a.take i = b.take i ∧ Below W.heap.size W wr))
    case atStart => exact ⟨0, Nat.zero_le _, by omega, rfl, rfl, Below.refl _ _⟩
    case round =>
      obtain ⟨i, hil, hgg, rfl, HH⟩ := hrel
      by_cases hlt : i < a.length
      · have hltz : (i : Int) < (a.length : Int) := by omega
        have hlt2 : i < b.length := by have := Hl.out; omega
        have hltz2 : (i : Int) < (b.length : Int) := by omega
        obtain ⟨g1, h1, hg1, c1⟩ := (TextAt.later (p := ⟨pa, a.length, pc⟩) ⟨rfl, H.out.1⟩ HH.out.2).2 i hlt
        obtain ⟨g2, h2, hg2, c2⟩ := (TextAt.later (p := ⟨qa, b.length, qc⟩) ⟨rfl, H.out.2⟩ HH.out.2).2 i hlt2
        simp only at h1 h2
        subst h1 h2
        have Hn := Lib.hid (show ¬ a[i] = b[i] → ¬ a = b from fun h e => h (by subst e; rfl))
        have Htk := Lib.hid (fun h => take_eq_snoc hlt hlt2 HH.out.1 h)
        generalize a[i] = x at c1 Hn Htk
        generalize b[i] = y at c2 Hn Htk
        cases hk : (x.toList == y.toList) with
        | false =>
          have Hk := Lib.hid (Hn.out (fun e => by rw [e] at hk; simp at hk))
          have hk2 : (x.toList != y.toList) = true := by simp only [bne, hk]; rfl
          clear hlt2 hlt
          go_wp2_with fail
          go_quiet (fail)
          go_wp2
          go_ret
          have hbq : Below W.heap.size W (wr.drewN nq) := ⟨HH.out.2.os, HH.out.2.tape, HH.out.2.output, HH.out.2.size, HH.out.2.block⟩
          exact ⟨⟨false, rfl, by simp; exact Hk.out⟩, hbq⟩
        | true =>
          have Hk := Lib.hid (Htk.out (text_eq.1 (beq_iff_eq.1 hk)))
          have hk2 : (x.toList != y.toList) = false := by simp only [bne, hk]; rfl
          clear hlt2
          go_wp2_with fail
          go_quiet (fail)
          go_wp2
          go_roundg (a.length - (i + 1))
          case measure => omega
          case rel =>
            have hbq : Below W.heap.size W (wr.drewN nq) := ⟨HH.out.2.os, HH.out.2.tape, HH.out.2.output, HH.out.2.size, HH.out.2.block⟩
            exact ⟨i + 1, by omega, by omega, by go_num, Hk.out, hbq⟩
      · obtain rfl : i = a.length := by omega
        go_wp2
        go_ret
        exact ⟨⟨true, rfl, ⟨fun _ => by
          have h := HH.out.1
          rw [List.take_length, Hl.out, List.take_length] at h
          exact h, fun _ => rfl⟩⟩, HH.out.2⟩
  · have hlb : ((a.length : Int) != (b.length : Int)) = true := by simp; omega
    have Hl := Lib.hid (show ¬ a = b from fun e => hl (by rw [e]))
    clear hl
    go_enter Tryd.func36, Tryd.ntmps36
    go_wp2
    go_ret
    exact ⟨⟨false, rfl, by simp; exact Hl.out⟩, Below.refl _ _⟩
end Go.Proofs.YtkecimhohmkkkaaDoor.tre
