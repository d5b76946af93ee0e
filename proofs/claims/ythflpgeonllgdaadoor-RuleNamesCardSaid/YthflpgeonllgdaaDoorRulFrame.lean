/- Layer 8: from a row's reading to rules and askings. -/
import Derived.Test.YthflpgeonllgdaaDoorRepO
import Derived.Test.YthflpgeonllgdaaDoorRulAny
import Derived.Test.YthflpgeonllgdaaDoorNamFrame
namespace Go.Proofs.YthflpgeonllgdaaDoor.rul
open Go.ChangeShapes Go.WideShapes Go.RowKit Go.Proofs.YthflpgeonllgdaaDoor.rep

theorem opens_Tx (B : Nat) : Opens Tryd.prog B 9 (text B) := opens_text Tryd.underlying9
theorem opens_Txs (B : Nat) : Opens Tryd.prog B 22 (row B (text B)) := opens_row Tryd.underlying22 (by kernel_rfl) (Nat.zero_lt_succ 0) (of_decide_eq_true (by kernel_rfl)) (opens_Tx B)
theorem opens_Rule (B : Nat) : Opens Tryd.prog B 24 (ruR B) := by
  intro H enc G hG W fuel cs d p h hd
  obtain ⟨hl, hf⟩ := trod_ones Tryd.underlying24 (by kernel_rfl) (by kernel_rfl) h hG hd
  obtain ⟨v0, y0, q0, n0, c0, g0, t0⟩ := hf 0 _ rfl
  obtain ⟨v1, y1, q1, n1, c1, g1, t1⟩ := hf 1 _ rfl
  obtain ⟨v2, y2, q2, n2, c2, g2, t2⟩ := hf 2 _ rfl
  obtain ⟨v3, y3, q3, n3, c3, g3, t3⟩ := hf 3 _ rfl
  obtain ⟨v4, y4, q4, n4, c4, g4, t4⟩ := hf 4 _ rfl
  obtain ⟨x0, u0, e0, s0⟩ := opens_Txs B H enc G hG W _ _ _ _ t0 g0
  obtain ⟨x1, u1, e1, s1⟩ := opens_Txs B H enc G hG W _ _ _ _ t1 g1
  obtain ⟨x2, u2, e2, s2⟩ := opens_Txs B H enc G hG W _ _ _ _ t2 g2
  obtain ⟨x3, u3, e3, s3⟩ := opens_Txs B H enc G hG W _ _ _ _ t3 g3
  obtain ⟨x4, u4, e4, s4⟩ := opens_Txs B H enc G hG W _ _ _ _ t4 g4
  simp only [List.cons.injEq, and_true] at e0 e1 e2 e3 e4
  subst e0 e1 e2 e3 e4
  match cs, hl, c0, c1, c2, c3, c4 with
  | [a, b, c, e, f], _, c0, c1, c2, c3, c4 =>
    simp at c0 c1 c2 c3 c4
    subst c0 c1 c2 c3 c4
    exact ⟨⟨x0, x1, x2, x3, x4⟩, _, _, _, _, _, rfl, s0, s1, s2, s3, s4⟩
theorem opens_Rules (B : Nat) : Opens Tryd.prog B 32 (row B (ruR B)) := opens_row Tryd.underlying32 (by kernel_rfl) (Nat.zero_lt_succ 4) (of_decide_eq_true (by kernel_rfl)) (opens_Rule B)
def akR (B : Nat) : Rep Ak where
  n := 7
  at_ _ cs x := cs = [.string x.verb, .string x.group, .string x.resource, .string x.part, .string x.name, .string x.space, .string x.path] ∧ akOk B x
  len h := by rw [h.1]; rfl
  later h _ := h
theorem opens_Attr (B : Nat) : Opens Tryd.prog B 26 (akR B) := by
  intro H enc G hG W fuel cs d p h hd
  obtain ⟨hl, hf⟩ := trod_ones Tryd.underlying26 (by kernel_rfl) (by kernel_rfl) h hG hd
  obtain ⟨v0, y0, q0, n0, c0, g0, t0⟩ := hf 0 _ rfl
  obtain ⟨v1, y1, q1, n1, c1, g1, t1⟩ := hf 1 _ rfl
  obtain ⟨v2, y2, q2, n2, c2, g2, t2⟩ := hf 2 _ rfl
  obtain ⟨v3, y3, q3, n3, c3, g3, t3⟩ := hf 3 _ rfl
  obtain ⟨v4, y4, q4, n4, c4, g4, t4⟩ := hf 4 _ rfl
  obtain ⟨v5, y5, q5, n5, c5, g5, t5⟩ := hf 5 _ rfl
  obtain ⟨v6, y6, q6, n6, c6, g6, t6⟩ := hf 6 _ rfl
  obtain ⟨x0, e0, s0⟩ := opens_Tx B H enc G hG W _ _ _ _ t0 g0
  obtain ⟨x1, e1, s1⟩ := opens_Tx B H enc G hG W _ _ _ _ t1 g1
  obtain ⟨x2, e2, s2⟩ := opens_Tx B H enc G hG W _ _ _ _ t2 g2
  obtain ⟨x3, e3, s3⟩ := opens_Tx B H enc G hG W _ _ _ _ t3 g3
  obtain ⟨x4, e4, s4⟩ := opens_Tx B H enc G hG W _ _ _ _ t4 g4
  obtain ⟨x5, e5, s5⟩ := opens_Tx B H enc G hG W _ _ _ _ t5 g5
  obtain ⟨x6, e6, s6⟩ := opens_Tx B H enc G hG W _ _ _ _ t6 g6
  simp only [List.cons.injEq, and_true] at e0 e1 e2 e3 e4 e5 e6
  subst e0 e1 e2 e3 e4 e5 e6
  match cs, hl, c0, c1, c2, c3, c4, c5, c6 with
  | [a, b, c, e, f, g, i], _, c0, c1, c2, c3, c4, c5, c6 =>
    simp at c0 c1 c2 c3 c4 c5 c6
    subst c0 c1 c2 c3 c4 c5 c6
    exact ⟨⟨x0, x1, x2, x3, x4, x5, x6⟩, rfl, s0, s1, s2, s3, s4, s5, s6⟩
theorem opens_Int (B : Nat) : Opens Tryd.prog B 3 num := opens_num Tryd.underlying3
theorem opens_Ints (B : Nat) : Opens Tryd.prog B 41 (row B num) := opens_row Tryd.underlying41 (by kernel_rfl) (Nat.zero_lt_succ 0) (of_decide_eq_true (by kernel_rfl)) (opens_Int B)
/-- Four numbers in an array. -/
def fourR : Rep (Int × Int × Int × Int) where
  n := 4
  at_ _ cs x := cs = [.int .i64 x.1, .int .i64 x.2.1, .int .i64 x.2.2.1, .int .i64 x.2.2.2] ∧ (Lit.int .i64 x.1).wf = true ∧ (Lit.int .i64 x.2.1).wf = true ∧ (Lit.int .i64 x.2.2.1).wf = true ∧ (Lit.int .i64 x.2.2.2).wf = true
  len h := by rw [h.1]; rfl
  later h _ := h
theorem opens_Four (B : Nat) : Opens Tryd.prog B 38 fourR := by
  intro H enc G hG W fuel cs d p h hd
  obtain ⟨xs, m, _, hx, hl, hlen, hf⟩ := DataW.trod_array Tryd.underlying38 h
  simp only [Prod.mk.injEq] at hx
  obtain ⟨rfl, _⟩ := hx
  have hc : Tryd.prog.cellsOf 3 = 1 := by kernel_rfl
  have hl2 : Tryd.prog.cellsOf 38 = 4 := by kernel_rfl
  rw [hl2] at hl
  rw [hc] at hf
  match xs, hlen, cs, hl with
  | [y0, y1, y2, y3], _, [a, b, c, e], _ =>
    have h0 := hf 0 (by omega)
    have h1 := hf 1 (by omega)
    have h2 := hf 2 (by omega)
    have h3 := hf 3 (by omega)
    simp at h0 h1 h2 h3
    have hg := hG.ar Tryd.underlying38 hd
    obtain ⟨x0, e0, s0⟩ := opens_Int B H enc G hG W m _ y0.1 y0.2 h0 (hg _ (by simp))
    obtain ⟨x1, e1, s1⟩ := opens_Int B H enc G hG W m _ y1.1 y1.2 h1 (hg _ (by simp))
    obtain ⟨x2, e2, s2⟩ := opens_Int B H enc G hG W m _ y2.1 y2.2 h2 (hg _ (by simp))
    obtain ⟨x3, e3, s3⟩ := opens_Int B H enc G hG W m _ y3.1 y3.2 h3 (hg _ (by simp))
    simp only [List.cons.injEq, and_true] at e0 e1 e2 e3
    subst e0 e1 e2 e3
    exact ⟨(x0, x1, x2, x3), rfl, s0, s1, s2, s3⟩

/-! The bound of the second form. -/
theorem bulk_mem {H : Type} : ∀ {es : List (DataW H)} {d : DataW H}, d ∈ es → Rows.uptoBulk d ≤ Rows.uptoBulkAll es
  | d0 :: es, d, hd => by
    unfold Rows.uptoBulkAll
    rcases List.mem_cons.1 hd with rfl | hd
    · omega
    · have := bulk_mem hd; omega
theorem bulk_pos {H : Type} (d : DataW H) : 1 ≤ Rows.uptoBulk d := by
  unfold Rows.uptoBulk
  split <;> omega
theorem bulk_len {H : Type} : ∀ es : List (DataW H), es.length ≤ Rows.uptoBulkAll es
  | [] => by simp
  | d :: es => by
    have h1 := bulk_len es
    have h2 := bulk_pos d
    unfold Rows.uptoBulkAll
    rw [List.length_cons]; omega
theorem bulk_good {P : Program} {H : Type} : rep.Good P 1048576 (fun _ (d : DataW H) => Rows.uptoBulk d ≤ 1048576) where
  str h := by unfold Rows.uptoBulk at h; omega
  sl := by
    intro t e es sp ht hb h
    unfold Rows.uptoBulk at h
    have h1 := bulk_len es
    exact ⟨by omega, fun d hd => by have := bulk_mem hd; omega⟩
  st := by
    intro t fs ds ht h j f d hf hd
    unfold Rows.uptoBulk at h
    have := bulk_mem (List.mem_of_getElem? hd)
    omega
  ar := by
    intro t e n ds ht h d hd
    unfold Rows.uptoBulk at h
    have := bulk_mem hd
    omega
theorem bulk_arg {H : Type} {ds gs : List (DataW H)} (h : Rows.uptoSmall H (ds ++ gs) = true) {d : DataW H} (hd : d ∈ ds) : Rows.uptoBulk d ≤ 1048576 := by
  have h1 := of_decide_eq_true h
  have h2 := bulk_mem (List.mem_append_left gs hd)
  omega
end Go.Proofs.YthflpgeonllgdaaDoor.rul
