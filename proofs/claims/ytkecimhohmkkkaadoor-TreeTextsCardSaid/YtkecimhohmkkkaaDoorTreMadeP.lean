/- Layer 4: what a row makes, plain; rows of items in the heap. -/
import Derived.Test.YtkecimhohmkkkaaDoorTreRow
namespace Go.Proofs.YtkecimhohmkkkaaDoor.tre
open Go.RowKit Go.Shelf

def leafV (x : It) : V := .mk x.kind x.int x.text [] []
def addL (m x : V) : V := .mk m.kind m.int m.text (m.list ++ [x]) m.fields
def addF (m : V) (k : ByteArray) (x : V) : V := .mk m.kind m.int m.text m.list (m.fields ++ [(k, x)])
/-- The document's made, from a state on: the value so far, and how many items it has. -/
def loopV (l : List It) (d : Int) (m : V) (N : Nat) : Option (V × Nat) :=
  if h : 0 < N ∧ N < l.length then
    if d < (l[N]'h.2).d then
      if (l[N]'h.2).d = d + 1 then
        match loopV (l.drop N) (d + 1) (leafV (l[N]'h.2)) 1 with
        | none => none
        | some (x, k) =>
          if k = 0 then none
          else if m.kind = 4 then
            if (l[N]'h.2).key.toList.isEmpty = true then loopV l d (addL m x) (N + k) else none
          else if m.kind = 5 then loopV l d (addF m (l[N]'h.2).key x) (N + k) else none
      else none
    else some (m, N)
  else some (m, N)
termination_by (l.length, l.length - N)
decreasing_by
  · apply Prod.Lex.left; simp; omega
  · apply Prod.Lex.right; omega
  · apply Prod.Lex.right; omega
def madeV (l : List It) (d : Int) : Option (V × Nat) :=
  match l with
  | [] => none
  | x :: _ => if x.d = d then loopV l d (leafV x) 1 else none
theorem loopV_pos : ∀ (n : Nat) (l : List It) (d : Int) (m : V) (N : Nat), l.length - N ≤ n → 0 < N → ∀ x k, loopV l d m N = some (x, k) → N ≤ k ∧ x.kind = m.kind ∧ x.int = m.int ∧ x.text = m.text := by
  intro n
  induction n with
  | zero =>
    intro l d m N hn h0 x k h
    rw [loopV, dif_neg (by omega)] at h
    simp only [Option.some.injEq, Prod.mk.injEq] at h
    obtain ⟨rfl, rfl⟩ := h
    exact ⟨Nat.le_refl _, rfl, rfl, rfl⟩
  | succ n ih =>
    intro l d m N hn h0 x k h
    rw [loopV] at h
    split at h
    · split at h
      · split at h
        · split at h
          · cases h
          · rename_i y j _
            split at h
            · cases h
            · split at h
              · split at h
                · have := ih l d (addL m y) (N + j) (by omega) (by omega) x k h
                  exact ⟨by omega, this.2⟩
                · cases h
              · split at h
                · have := ih l d (addF m _ y) (N + j) (by omega) (by omega) x k h
                  exact ⟨by omega, this.2⟩
                · cases h
        · cases h
      · simp only [Option.some.injEq, Prod.mk.injEq] at h
        obtain ⟨rfl, rfl⟩ := h
        exact ⟨Nat.le_refl _, rfl, rfl, rfl⟩
    · simp only [Option.some.injEq, Prod.mk.injEq] at h
      obtain ⟨rfl, rfl⟩ := h
      exact ⟨Nat.le_refl _, rfl, rfl, rfl⟩

/-- Items lie in a block, from one place on. -/
def ItAt (w : World) (bl o : Nat) (l : List It) : Prop := ∀ i (h : i < l.length), ∀ j u, (cellsI l[i])[j]? = some u → w.cell? ⟨bl, o * 5 + i * 5 + j, none⟩ = some u
theorem ItAt.drop {w : World} {bl o : Nat} {l : List It} (h : ItAt w bl o l) (N : Nat) : ItAt w bl (o + N) (l.drop N) := by
  intro i hi j u hu
  rw [List.getElem_drop] at hu
  rw [show (o + N) * 5 + i * 5 + j = o * 5 + (N + i) * 5 + j by omega]
  exact h (N + i) (by simp at hi; omega) j u hu
theorem ItAt.later {w w' : World} {bl o : Nat} {l : List It} (h : ItAt w bl o l) (hb : Below w.heap.size w w') (hl : bl < w.heap.size) : ItAt w' bl o l :=
  fun i hi j u hu => (hb.cell (by exact hl)).trans (h i hi j u hu)
theorem ItAt.five {w : World} {bl o : Nat} {l : List It} (h : ItAt w bl o l) (i : Nat) (hi : i < l.length) :
    w.cell? ⟨bl, o * 5 + i * 5, none⟩ = some (.int .i64 l[i].d) ∧ w.cell? ⟨bl, o * 5 + i * 5 + 1, none⟩ = some (.int .i64 l[i].kind) ∧ w.cell? ⟨bl, o * 5 + i * 5 + 2, none⟩ = some (.int .i64 l[i].int) ∧
    w.cell? ⟨bl, o * 5 + i * 5 + 3, none⟩ = some (.string l[i].key) ∧ w.cell? ⟨bl, o * 5 + i * 5 + 4, none⟩ = some (.string l[i].text) :=
  ⟨h i hi 0 _ rfl, h i hi 1 _ rfl, h i hi 2 _ rfl, h i hi 3 _ rfl, h i hi 4 _ rfl⟩
end Go.Proofs.YtkecimhohmkkkaaDoor.tre
