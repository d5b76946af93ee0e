/- Layer 7: how pairs, wants and selectors lie; function values that are asked of them. -/
import Derived.Test.YthflpgeonllgdaaDoorRepR
import Derived.Test.YthflpgeonllgdaaDoorLabP
import Derived.IntWalk
import Derived.WalkSpells
import Derived.WalkLawsBesides
namespace Go.Proofs.YthflpgeonllgdaaDoor.lab
open Go.RowKit Go.Proofs.YthflpgeonllgdaaDoor.rep

def prR (B : Nat) : Rep Pr where
  n := 2
  at_ _ cs x := cs = [.string x.key, .string x.value] ∧ x.key.size ≤ B ∧ x.value.size ≤ B
  len h := by rw [h.1]; rfl
  later h _ := h
def wtR (B : Nat) : Rep Wt where
  n := 3
  at_ W cs x := ∃ v, cs = [.string x.key, .string x.how, v] ∧ x.key.size ≤ B ∧ x.how.size ≤ B ∧ RowAt B (text B) W v x.vals
  len h := by obtain ⟨v, h, _⟩ := h; rw [h]; rfl
  later h hb := by obtain ⟨v, h, h1, h2, h3⟩ := h; exact ⟨v, h, h1, h2, h3.later hb⟩
def selR (B : Nat) : Rep Sel where
  n := 2
  at_ W cs x := ∃ u v, cs = [u, v] ∧ RowAt B (prR B) W u x.labels ∧ RowAt B (wtR B) W v x.wants
  len h := by obtain ⟨u, v, h, _⟩ := h; rw [h]; rfl
  later h hb := by obtain ⟨u, v, h, h1, h2⟩ := h; exact ⟨u, v, h, h1.later hb, h2.later hb⟩

/-- As values. -/
def TxV (B : Nat) (_ : World) (v : Value) (x : ByteArray) : Prop := v = .string x ∧ x.size ≤ B
def PrV (B : Nat) (_ : World) (v : Value) (x : Pr) : Prop := v = .agg #[.string x.key, .string x.value] ∧ x.key.size ≤ B ∧ x.value.size ≤ B
def WtV (B : Nat) (W : World) (v : Value) (x : Wt) : Prop := ∃ u, v = .agg #[.string x.key, .string x.how, u] ∧ x.key.size ≤ B ∧ x.how.size ≤ B ∧ RowAt B (text B) W u x.vals
def SelV (B : Nat) (W : World) (v : Value) (x : Sel) : Prop := ∃ u t, v = .agg #[u, t] ∧ RowAt B (prR B) W u x.labels ∧ RowAt B (wtR B) W t x.wants
theorem WtV.later {B : Nat} {W w : World} {v : Value} {x : Wt} (h : WtV B W v x) (hb : Below W.heap.size W w) : WtV B w v x := by
  obtain ⟨u, h1, h2, h3, h4⟩ := h
  exact ⟨u, h1, h2, h3, h4.later hb⟩
theorem SelV.later {B : Nat} {W w : World} {v : Value} {x : Sel} (h : SelV B W v x) (hb : Below W.heap.size W w) : SelV B w v x := by
  obtain ⟨u, t, h1, h2, h3⟩ := h
  exact ⟨u, t, h1, h2.later hb, h3.later hb⟩

theorem ret_bool {a b : Bool} (h : a = b) : Ending.returned (.bool a) = .returned (.bool b) := by rw [h]
theorem ret_int {a b : Int} (h : a = b) : Ending.returned (.int .i64 a) = .returned (.int .i64 b) := by rw [h]
theorem chain {a b c : World} (h : Below a.heap.size a b) (k : Below b.heap.size b c) : Below a.heap.size a c := h.trans (k.mono h.size)

/-- A function value answers p of each value that is told so, in this world and in each that has more. -/
def AskR {α : Type} (R : World → Value → α → Prop) (k : FuncId) (cap : Array Value) (p : α → Bool) (w : World) : Prop :=
  (∀ args W, (callFunc k args).run Tryd.prog W = .ok (.enter k args) W) ∧
  ∀ (W : World) (v : Value) (x : α), R W v x → Below w.heap.size w W → Calls Tryd.prog k (#[v] ++ cap) W fun e W' => e = .returned (.bool (p x)) ∧ Below W.heap.size W W'
theorem AskR.later {α : Type} {R : World → Value → α → Prop} {k : FuncId} {cap : Array Value} {p : α → Bool} {w W : World} (h : AskR R k cap p w) (hb : Below w.heap.size w W) : AskR R k cap p W :=
  ⟨h.1, fun W' v x hx hb' => h.2 W' v x hx (hb.trans (hb'.mono hb.size))⟩
end Go.Proofs.YthflpgeonllgdaaDoor.lab
