/- Layer 7: from a row's reading to pairs, wants and selectors. -/
import Derived.Test.YtodobacgbbpmfaaDoorRepO
import Derived.Test.YtodobacgbbpmfaaDoorLabD
import Derived.Test.YtodobacgbbpmfaaDoorNamFrame
namespace Go.Proofs.YtodobacgbbpmfaaDoor.lab
open Go.ChangeShapes Go.WideShapes Go.RowKit Go.Proofs.YtodobacgbbpmfaaDoor.rep

theorem opens_Tx (B : Nat) : Opens Tryd.prog B 9 (text B) := opens_text Tryd.underlying9
theorem opens_Txs (B : Nat) : Opens Tryd.prog B 35 (row B (text B)) := opens_row Tryd.underlying35 (by kernel_rfl) (Nat.zero_lt_succ 0) (of_decide_eq_true (by kernel_rfl)) (opens_Tx B)
theorem opens_Pr (B : Nat) : Opens Tryd.prog B 43 (prR B) := by
  intro H enc G hG W fuel cs d p h hd
  obtain ⟨hl, hf⟩ := trod_ones Tryd.underlying43 (by kernel_rfl) (by kernel_rfl) h hG hd
  obtain ⟨v0, y0, q0, n0, c0, g0, t0⟩ := hf 0 _ rfl
  obtain ⟨v1, y1, q1, n1, c1, g1, t1⟩ := hf 1 _ rfl
  obtain ⟨x0, e0, s0⟩ := opens_Tx B H enc G hG W _ _ _ _ t0 g0
  obtain ⟨x1, e1, s1⟩ := opens_Tx B H enc G hG W _ _ _ _ t1 g1
  simp only [List.cons.injEq, and_true] at e0 e1
  subst e0 e1
  match cs, hl, c0, c1 with
  | [a, b], _, c0, c1 =>
    simp at c0 c1
    subst c0 c1
    exact ⟨⟨x0, x1⟩, rfl, s0, s1⟩
theorem opens_Prs (B : Nat) : Opens Tryd.prog B 22 (row B (prR B)) := opens_row Tryd.underlying22 (by kernel_rfl) (Nat.zero_lt_succ 1) (of_decide_eq_true (by kernel_rfl)) (opens_Pr B)
theorem opens_Wt (B : Nat) : Opens Tryd.prog B 37 (wtR B) := by
  intro H enc G hG W fuel cs d p h hd
  obtain ⟨hl, hf⟩ := trod_ones Tryd.underlying37 (by kernel_rfl) (by kernel_rfl) h hG hd
  obtain ⟨v0, y0, q0, n0, c0, g0, t0⟩ := hf 0 _ rfl
  obtain ⟨v1, y1, q1, n1, c1, g1, t1⟩ := hf 1 _ rfl
  obtain ⟨v2, y2, q2, n2, c2, g2, t2⟩ := hf 2 _ rfl
  obtain ⟨x0, e0, s0⟩ := opens_Tx B H enc G hG W _ _ _ _ t0 g0
  obtain ⟨x1, e1, s1⟩ := opens_Tx B H enc G hG W _ _ _ _ t1 g1
  obtain ⟨x2, u2, e2, s2⟩ := opens_Txs B H enc G hG W _ _ _ _ t2 g2
  simp only [List.cons.injEq, and_true] at e0 e1 e2
  subst e0 e1 e2
  match cs, hl, c0, c1, c2 with
  | [a, b, c], _, c0, c1, c2 =>
    simp at c0 c1 c2
    subst c0 c1 c2
    exact ⟨⟨x0, x1, x2⟩, _, rfl, s0, s1, s2⟩
theorem opens_Wts (B : Nat) : Opens Tryd.prog B 23 (row B (wtR B)) := opens_row Tryd.underlying23 (by kernel_rfl) (Nat.zero_lt_succ 2) (of_decide_eq_true (by kernel_rfl)) (opens_Wt B)
theorem opens_Sel (B : Nat) : Opens Tryd.prog B 25 (selR B) := by
  intro H enc G hG W fuel cs d p h hd
  obtain ⟨hl, hf⟩ := trod_ones Tryd.underlying25 (by kernel_rfl) (by kernel_rfl) h hG hd
  obtain ⟨v0, y0, q0, n0, c0, g0, t0⟩ := hf 0 _ rfl
  obtain ⟨v1, y1, q1, n1, c1, g1, t1⟩ := hf 1 _ rfl
  obtain ⟨x0, u0, e0, s0⟩ := opens_Prs B H enc G hG W _ _ _ _ t0 g0
  obtain ⟨x1, u1, e1, s1⟩ := opens_Wts B H enc G hG W _ _ _ _ t1 g1
  simp only [List.cons.injEq, and_true] at e0 e1
  subst e0 e1
  match cs, hl, c0, c1 with
  | [a, b], _, c0, c1 =>
    simp at c0 c1
    subst c0 c1
    exact ⟨⟨x0, x1⟩, _, _, rfl, s0, s1⟩
/-- Two texts in an array. -/
def arrR (B : Nat) : Rep (ByteArray × ByteArray) where
  n := 2
  at_ _ cs x := cs = [.string x.1, .string x.2] ∧ x.1.size ≤ B ∧ x.2.size ≤ B
  len h := by rw [h.1]; rfl
  later h _ := h
theorem opens_Arr (B : Nat) : Opens Tryd.prog B 49 (arrR B) := by
  intro H enc G hG W fuel cs d p h hd
  obtain ⟨xs, m, _, hx, hl, hlen, hf⟩ := DataW.trod_array Tryd.underlying49 h
  simp only [Prod.mk.injEq] at hx
  obtain ⟨rfl, _⟩ := hx
  have hc : Tryd.prog.cellsOf 9 = 1 := by kernel_rfl
  have hl2 : Tryd.prog.cellsOf 49 = 2 := by kernel_rfl
  rw [hl2] at hl
  rw [hc] at hf
  match xs, hlen, cs, hl with
  | [y0, y1], _, [a, b], _ =>
    have h0 := hf 0 (by omega)
    have h1 := hf 1 (by omega)
    simp at h0 h1
    have hg := hG.ar Tryd.underlying49 hd
    obtain ⟨x0, e0, s0⟩ := opens_Tx B H enc G hG W m _ y0.1 y0.2 h0 (hg _ (by simp))
    obtain ⟨x1, e1, s1⟩ := opens_Tx B H enc G hG W m _ y1.1 y1.2 h1 (hg _ (by simp))
    simp only [List.cons.injEq, and_true] at e0 e1
    subst e0 e1
    exact ⟨(x0, x1), rfl, s0, s1⟩
/-- One more pair, and one more want. -/
theorem opens_More (B : Nat) : Opens Tryd.prog B 45 (two (prR B) (wtR B)) := by
  intro H enc G hG W fuel cs d p h hd
  obtain ⟨ds, rfl, hl, n, hf⟩ := trod_fields Tryd.underlying45 h
  obtain ⟨y0, q0, hy0, t0⟩ := hf 0 _ rfl
  obtain ⟨y1, q1, hy1, t1⟩ := hf 1 _ rfl
  have g0 := hG.st Tryd.underlying45 hd 0 _ y0 rfl hy0
  have g1 := hG.st Tryd.underlying45 hd 1 _ y1 rfl hy1
  have hc : Tryd.prog.cellsOf 45 = 5 := by kernel_rfl
  have hc0 : Tryd.prog.cellsOf 43 = 2 := by kernel_rfl
  have hc1 : Tryd.prog.cellsOf 37 = 3 := by kernel_rfl
  rw [hc] at hl
  match cs, hl with
  | [a, b, c, e, f], _ =>
    have t0 : DataW.trod enc Tryd.prog W 0 (fun _ => true) true n 43 (([a, b, c, e, f].drop 0).take (Tryd.prog.cellsOf 43)) = some (y0, q0) := t0
    have t1 : DataW.trod enc Tryd.prog W 0 (fun _ => true) true n 37 (([a, b, c, e, f].drop 2).take (Tryd.prog.cellsOf 37)) = some (y1, q1) := t1
    rw [hc0] at t0
    rw [hc1] at t1
    obtain ⟨x0, s0⟩ := opens_Pr B H enc G hG W _ _ _ _ t0 g0
    obtain ⟨x1, s1⟩ := opens_Wt B H enc G hG W _ _ _ _ t1 g1
    exact ⟨(x0, x1), [a, b], [c, e, f], rfl, s0, s1⟩

/-! The bound of the second form. -/
theorem bulk_mem {H : Type} : ∀ {es : List (DataW H)} {d : DataW H}, d ∈ es → Rows.uptoBulk d ≤ Rows.uptoBulkAll es
  | d0 :: es, d, hd => by
    unfold Rows.uptoBulkAll
    rcases List.mem_cons.1 hd with rfl | hd
    · omega
    · have := bulk_mem hd; omega
theorem bulk_pos {H : Type} (d : DataW H) : 1 ≤ Rows.uptoBulk d := by
  unfold Rows.uptoBulk
  split <;> omega
theorem bulk_len {H : Type} : ∀ es : List (DataW H), es.length ≤ Rows.uptoBulkAll es
  | [] => by simp
  | d :: es => by
    have h1 := bulk_len es
    have h2 := bulk_pos d
    unfold Rows.uptoBulkAll
    rw [List.length_cons]; omega
theorem bulk_good {P : Program} {H : Type} : rep.Good P 1048576 (fun _ (d : DataW H) => Rows.uptoBulk d ≤ 1048576) where
  str h := by unfold Rows.uptoBulk at h; omega
  sl := by
    intro t e es sp ht hb h
    unfold Rows.uptoBulk at h
    have h1 := bulk_len es
    exact ⟨by omega, fun d hd => by have := bulk_mem hd; omega⟩
  st := by
    intro t fs ds ht h j f d hf hd
    unfold Rows.uptoBulk at h
    have := bulk_mem (List.mem_of_getElem? hd)
    omega
  ar := by
    intro t e n ds ht h d hd
    unfold Rows.uptoBulk at h
    have := bulk_mem hd
    omega
theorem bulk_arg {H : Type} {ds gs : List (DataW H)} (h : Rows.uptoSmall H (ds ++ gs) = true) {d : DataW H} (hd : d ∈ ds) : Rows.uptoBulk d ≤ 1048576 := by
  have h1 := of_decide_eq_true h
  have h2 := bulk_mem (List.mem_append_left gs hd)
  omega
end Go.Proofs.YtodobacgbbpmfaaDoor.lab
