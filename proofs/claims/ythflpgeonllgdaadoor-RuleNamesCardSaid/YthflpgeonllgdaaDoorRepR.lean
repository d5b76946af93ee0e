/- How data lies in a world: texts, rows of them, structs, each told by its cells. Nothing of the program. -/
import Derived.Test.YthflpgeonllgdaaDoorRows
import Derived.Below
import Derived.Lib.Hide
import Derived.WalkKit
namespace Go.Proofs.YthflpgeonllgdaaDoor.rep
open Go.RowKit

theorem addr_add {b off : Nat} (j : Nat) : (⟨b, off, none⟩ : Addr).add j = ⟨b, off + j, none⟩ := by unfold Addr.add; split <;> simp_all
/-- How a kind of data lies: in so many cells; and later on, where nothing old has changed, too. -/
structure Rep (α : Type) where
  n : Nat
  at_ : World → List Value → α → Prop
  len : ∀ {W : World} {cs : List Value} {x : α}, at_ W cs x → cs.length = n
  later : ∀ {W w : World} {cs : List Value} {x : α}, at_ W cs x → Below W.heap.size W w → at_ w cs x

def text (B : Nat) : Rep ByteArray where
  n := 1
  at_ _ cs x := cs = [.string x] ∧ x.size ≤ B
  len h := by rw [h.1]; rfl
  later h _ := h

/-- So lies a row of them, from this address on. -/
def RowIn {α : Type} (r : Rep α) (W : World) (a : Option Addr) (l : List α) : Prop :=
  l = [] ∨ ∃ b off, a = some ⟨b, off, none⟩ ∧ b < W.heap.size ∧ ∀ i (h : i < l.length), ∃ cs, r.at_ W cs l[i] ∧ ∀ j u, cs[j]? = some u → W.cell? ⟨b, off + i * r.n + j, none⟩ = some u
theorem RowIn.later {α : Type} {r : Rep α} {W w : World} {a : Option Addr} {l : List α} (h : RowIn r W a l) (hb : Below W.heap.size W w) : RowIn r w a l := by
  rcases h with h | ⟨b, off, h1, h2, h3⟩
  · exact .inl h
  · exact .inr ⟨b, off, h1, Nat.lt_of_lt_of_le h2 hb.size, fun i hi => by
      obtain ⟨cs, h4, h5⟩ := h3 i hi
      exact ⟨cs, r.later h4 hb, fun j u hu => (hb.cell (p := ⟨b, off + i * r.n + j, none⟩) (by exact h2)).trans (h5 j u hu)⟩⟩
theorem RowIn.take {α : Type} {r : Rep α} {W : World} {a : Option Addr} {l : List α} (h : RowIn r W a l) (k : Nat) : RowIn r W a (l.take k) := by
  rcases h with rfl | ⟨b, off, h1, h2, h3⟩
  · exact .inl (by simp)
  · exact .inr ⟨b, off, h1, h2, fun i hi => by
      have hi' : i < l.length := by simp at hi; omega
      obtain ⟨cs, h4, h5⟩ := h3 i hi'
      exact ⟨cs, by simpa using h4, h5⟩⟩
theorem RowIn.drop {α : Type} {r : Rep α} {W : World} {b off : Nat} {l : List α} (h : RowIn r W (some ⟨b, off, none⟩) l) (k : Nat) : RowIn r W (some ⟨b, off + k * r.n, none⟩) (l.drop k) := by
  rcases h with rfl | ⟨b', off', h1, h2, h3⟩
  · exact .inl (by simp)
  · simp only [Option.some.injEq, Addr.mk.injEq, and_true] at h1
    obtain ⟨rfl, rfl⟩ := h1
    exact .inr ⟨b, off + k * r.n, rfl, h2, fun i hi => by
      have hi' : k + i < l.length := by simp at hi; omega
      obtain ⟨cs, h4, h5⟩ := h3 (k + i) hi'
      refine ⟨cs, by simpa using h4, fun j u hu => ?_⟩
      have := h5 j u hu
      rwa [Nat.add_mul, ← Nat.add_assoc] at this⟩
/-- What is at a place of a row. -/
theorem RowIn.get {α : Type} {r : Rep α} {W : World} {a : Option Addr} {l : List α} (h : RowIn r W a l) {i : Nat} (hi : i < l.length) :
    ∃ b off, a = some ⟨b, off, none⟩ ∧ b < W.heap.size ∧ ∃ cs, r.at_ W cs l[i] ∧ ∀ j u, cs[j]? = some u → W.cell? ⟨b, off + i * r.n + j, none⟩ = some u := by
  rcases h with rfl | ⟨b, off, h1, h2, h3⟩
  · cases hi
  · exact ⟨b, off, h1, h2, h3 i hi⟩
def RowAt {α : Type} (B : Nat) (r : Rep α) (W : World) (v : Value) (l : List α) : Prop :=
  ∃ a c, v = .slice a l.length c ∧ l.length ≤ c ∧ c ≤ 9223372036854775807 ∧ l.length ≤ B ∧ RowIn r W a l
theorem RowAt.later {α : Type} {B : Nat} {r : Rep α} {W w : World} {v : Value} {l : List α} (h : RowAt B r W v l) (hb : Below W.heap.size W w) : RowAt B r w v l := by
  obtain ⟨a, c, h1, h2, h3, h4, h5⟩ := h
  exact ⟨a, c, h1, h2, h3, h4, h5.later hb⟩
def row {α : Type} (B : Nat) (r : Rep α) : Rep (List α) where
  n := 1
  at_ W cs l := ∃ v, cs = [v] ∧ RowAt B r W v l
  len h := by obtain ⟨v, h, _⟩ := h; rw [h]; rfl
  later h hb := by obtain ⟨v, h, h2⟩ := h; exact ⟨v, h, h2.later hb⟩
/-- A pair of kinds, one behind the other. -/
def two {α β : Type} (r : Rep α) (s : Rep β) : Rep (α × β) where
  n := r.n + s.n
  at_ W cs x := ∃ c d, cs = c ++ d ∧ r.at_ W c x.1 ∧ s.at_ W d x.2
  len h := by obtain ⟨c, d, rfl, h1, h2⟩ := h; rw [List.length_append, r.len h1, s.len h2]
  later h hb := by obtain ⟨c, d, rfl, h1, h2⟩ := h; exact ⟨c, d, rfl, r.later h1 hb, s.later h2 hb⟩
def num : Rep Int where
  n := 1
  at_ _ cs x := cs = [.int .i64 x] ∧ (Lit.int .i64 x).wf = true
  len h := by rw [h.1]; rfl
  later h _ := h
def yes : Rep Bool where
  n := 1
  at_ _ cs x := cs = [.bool x]
  len h := by rw [h]; rfl
  later h _ := h
/-- Told by another kind of data. -/
def by_ {α β : Type} (r : Rep α) (f : β → α) : Rep β where
  n := r.n
  at_ W cs x := r.at_ W cs (f x)
  len h := r.len h
  later h hb := r.later h hb
end Go.Proofs.YthflpgeonllgdaaDoor.rep
