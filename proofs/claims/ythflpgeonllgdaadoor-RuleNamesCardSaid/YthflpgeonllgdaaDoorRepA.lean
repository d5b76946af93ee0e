/- Rows that a call makes: appended to from rows that came in; and read again as rows. -/
import Derived.Test.YthflpgeonllgdaaDoorRepR
import Derived.Maps.AppendAt
import Derived.OwnWalk
namespace Go.Proofs.YthflpgeonllgdaaDoor.rep
open Go.RowKit

theorem flat_len {n : Nat} : ∀ {css : List (List Value)}, (∀ cs ∈ css, cs.length = n) → css.flatten.length = css.length * n
  | [], _ => by simp
  | c :: r, h => by
    have ih := flat_len (css := r) (fun cs hc => h cs (by simp [hc]))
    rw [List.flatten_cons, List.length_append, ih, h c (by simp), List.length_cons, Nat.add_mul]; omega
theorem flat_put {n : Nat} : ∀ {css : List (List Value)}, (∀ cs ∈ css, cs.length = n) → ∀ {i j : Nat} {cs : List Value} {u : Value}, css[i]? = some cs → cs[j]? = some u → css.flatten[i * n + j]? = some u
  | [], _, i, j, cs, u, h1, _ => by simp at h1
  | c :: r, h, 0, j, cs, u, h1, h2 => by
    simp only [List.getElem?_cons_zero, Option.some.injEq] at h1
    subst h1
    have hj := (List.getElem?_eq_some_iff.1 h2).1
    rw [List.flatten_cons, Nat.zero_mul, Nat.zero_add, List.getElem?_append_left hj, h2]
  | c :: r, h, i + 1, j, cs, u, h1, h2 => by
    have ih := flat_put (css := r) (fun cs hc => h cs (by simp [hc])) (i := i) (by simpa using h1) h2
    have hc := h c (by simp)
    rw [List.flatten_cons, List.getElem?_append_right (by rw [hc, Nat.add_mul]; omega), hc, show (i + 1) * n + j - n = i * n + j by rw [Nat.add_mul]; omega, ih]
theorem flat_get {n : Nat} : ∀ {css : List (List Value)}, (∀ cs ∈ css, cs.length = n) → ∀ {q : Nat} {u : Value}, css.flatten[q]? = some u → ∃ i j cs, q = i * n + j ∧ css[i]? = some cs ∧ cs[j]? = some u
  | [], _, q, u, h => by simp at h
  | c :: r, h, q, u, hq => by
    have hc := h c (by simp)
    by_cases hlt : q < c.length
    · rw [List.flatten_cons, List.getElem?_append_left hlt] at hq
      exact ⟨0, q, c, by simp, rfl, hq⟩
    · rw [List.flatten_cons, List.getElem?_append_right (by omega), hc] at hq
      obtain ⟨i, j, cs, h1, h2, h3⟩ := flat_get (css := r) (fun cs hc => h cs (by simp [hc])) hq
      exact ⟨i + 1, j, cs, by rw [Nat.add_mul]; omega, by simpa using h2, h3⟩

/-- The cells of a row, told one behind the other. -/
def Lists {α : Type} (r : Rep α) (W : World) (css : List (List Value)) (l : List α) : Prop := css.length = l.length ∧ ∀ (i : Nat) (cs : List Value) (x : α), css[i]? = some cs → l[i]? = some x → r.at_ W cs x
theorem Lists.later {α : Type} {r : Rep α} {W w : World} {css : List (List Value)} {l : List α} (h : Lists r W css l) (hb : Below W.heap.size W w) : Lists r w css l := ⟨h.1, fun i cs x h1 h2 => r.later (h.2 i cs x h1 h2) hb⟩
theorem Lists.len {α : Type} {r : Rep α} {W : World} {css : List (List Value)} {l : List α} (h : Lists r W css l) : ∀ cs ∈ css, cs.length = r.n := by
  intro cs hc
  obtain ⟨i, hi, rfl⟩ := List.getElem_of_mem hc
  exact r.len (h.2 i _ (l[i]'(by rw [← h.1]; exact hi)) (List.getElem?_eq_getElem hi) (List.getElem?_eq_getElem _))
theorem Lists.nil {α : Type} (r : Rep α) (W : World) : Lists r W [] [] := ⟨rfl, fun i cs x h => by simp at h⟩
theorem Lists.append {α : Type} {r : Rep α} {W : World} {css dss : List (List Value)} {l m : List α} (h : Lists r W css l) (k : Lists r W dss m) : Lists r W (css ++ dss) (l ++ m) := by
  refine ⟨by rw [List.length_append, List.length_append, h.1, k.1], fun i cs x h1 h2 => ?_⟩
  by_cases hi : i < css.length
  · rw [List.getElem?_append_left hi] at h1
    rw [List.getElem?_append_left (by rw [← h.1]; exact hi)] at h2
    exact h.2 i cs x h1 h2
  · rw [List.getElem?_append_right (by omega)] at h1
    rw [List.getElem?_append_right (by rw [← h.1]; omega), ← h.1] at h2
    exact k.2 _ cs x h1 h2
theorem Lists.one {α : Type} {r : Rep α} {W : World} {cs : List Value} {x : α} (h : r.at_ W cs x) : Lists r W [cs] [x] := by
  refine ⟨rfl, fun i c y h1 h2 => ?_⟩
  match i, h1, h2 with
  | 0, h1, h2 =>
    simp only [List.getElem?_cons_zero, Option.some.injEq] at h1 h2
    subst h1 h2
    exact h
  | i + 1, h1, _ => simp at h1
theorem Lists.take {α : Type} {r : Rep α} {W : World} {css : List (List Value)} {l : List α} (h : Lists r W css l) (k : Nat) : Lists r W (css.take k) (l.take k) := by
  refine ⟨by rw [List.length_take, List.length_take, h.1], fun i cs x h1 h2 => ?_⟩
  rw [List.getElem?_take] at h1 h2
  split at h1
  · rename_i hi
    rw [if_pos hi] at h2
    exact h.2 i cs x h1 h2
  · cases h1
theorem RowIn.lists {α : Type} {r : Rep α} {W : World} {a : Option Addr} {l : List α} (h : RowIn r W a l) :
    ∃ css, Lists r W css l ∧ ∀ ad, a = some ad → ∀ j u, css.flatten[j]? = some u → W.cell? (ad.add j) = some u := by
  rcases h with rfl | ⟨b, off, rfl, hb, h⟩
  · exact ⟨[], Lists.nil r W, fun ad _ j u hu => by simp at hu⟩
  · have hex : ∀ k, k ≤ l.length → ∃ css : List (List Value), css.length = k ∧ ∀ i (hi : i < l.length) cs, css[i]? = some cs → r.at_ W cs l[i] ∧ ∀ j u, cs[j]? = some u → W.cell? ⟨b, off + i * r.n + j, none⟩ = some u := by
      intro k
      induction k with
      | zero => exact fun _ => ⟨[], rfl, fun i hi cs hc => by simp at hc⟩
      | succ k ih =>
        intro hk
        obtain ⟨css, h1, h2⟩ := ih (by omega)
        obtain ⟨cs, h3, h4⟩ := h k (by omega)
        refine ⟨css ++ [cs], by simp [h1], fun i hi cs' hc => ?_⟩
        by_cases hik : i < k
        · rw [List.getElem?_append_left (by omega)] at hc
          exact h2 i hi cs' hc
        · rw [List.getElem?_append_right (by omega)] at hc
          have : i - css.length = 0 := by
            have := (List.getElem?_eq_some_iff.1 hc).1
            simp at this; omega
          rw [this] at hc
          simp only [List.getElem?_cons_zero, Option.some.injEq] at hc
          subst hc
          obtain rfl : i = k := by omega
          exact ⟨h3, h4⟩
    obtain ⟨css, h1, h2⟩ := hex l.length (Nat.le_refl _)
    have hL : Lists r W css l := ⟨h1, fun i cs x hc hx => by
      obtain ⟨hi, rfl⟩ := List.getElem?_eq_some_iff.1 hx
      exact (h2 i hi cs hc).1⟩
    refine ⟨css, hL, fun ad e j u hu => ?_⟩
    simp only [Option.some.injEq] at e
    subst e
    obtain ⟨i, q, cs, rfl, hc, hq⟩ := flat_get hL.len hu
    have hi : i < l.length := by rw [← h1]; exact (List.getElem?_eq_some_iff.1 hc).1
    rw [addr_add, ← Nat.add_assoc]
    exact (h2 i hi cs hc).2 q u hq
/-- A block that holds the cells of a row. -/
theorem RowIn.of_block {α : Type} {r : Rep α} {W : World} {g : Nat} {cur : Array Value} {T : TypeId} {fz : Nat × Nat} {css : List (List Value)} {l : List α} (hg : W.heap[g]? = some (.cells cur T fz)) (h : Lists r W css l) (hc : cur.toList.take (l.length * r.n) = css.flatten) :
    RowIn r W (some ⟨g, 0, none⟩) l := by
  refine .inr ⟨g, 0, rfl, (Array.getElem?_eq_some_iff.1 hg).1, fun i hi => ?_⟩
  have hic : i < css.length := by rw [h.1]; exact hi
  refine ⟨css[i], h.2 i _ _ (List.getElem?_eq_getElem hic) (List.getElem?_eq_getElem hi), fun j u hu => ?_⟩
  have hf := flat_put h.len (List.getElem?_eq_getElem hic) hu
  rw [cell_of_row W g _ cur T fz hg, Nat.zero_add, ← Array.getElem?_toList]
  rw [← hc, List.getElem?_take] at hf
  split at hf
  · exact hf
  · cases hf
theorem RowAt.of_own {α : Type} {B : Nat} {r : Rep α} {w : World} {base : Nat} {e : TypeId} {v : Value} {css : List (List Value)} {l : List α} {n : Nat} (h : w.ownsRow base e r.n v n css.flatten) (hn : n = l.length) (hL : Lists r w css l) (hB : l.length ≤ B) : RowAt B r w v l := by
  subst hn
  rcases h.2 with ⟨rfl, h0⟩ | ⟨g, cap, cur, rfl, _, hg, hnc, hcm, _, ht⟩
  · obtain rfl := List.length_eq_zero_iff.1 h0
    exact ⟨none, 0, rfl, Nat.le_refl _, by omega, hB, .inl rfl⟩
  · unfold maxLen at hcm
    exact ⟨_, cap, rfl, hnc, hcm, hB, RowIn.of_block hg hL ht⟩

/-- A fresh block of a row's cells. -/
theorem RowAt.new {α : Type} {B : Nat} {r : Rep α} (W : World) {g : Nat} (hg : g = W.heap.size) (cs : Array Value) (T : TypeId) {css : List (List Value)} {l : List α} {n : Nat} (hn : n = l.length) (hB : l.length ≤ B) (h63 : l.length ≤ 9223372036854775807) (h : Lists r (W.alloc (.cells cs T)) css l) (hc : cs.toList = css.flatten) :
    RowAt B r (W.alloc (.cells cs T)) (.slice (some ⟨g, 0, none⟩) n n) l := by
  subst hg hn
  exact ⟨_, _, rfl, Nat.le_refl _, h63, hB, RowIn.of_block (heap_alloc_new W _) h (by rw [hc, List.take_of_length_le]; rw [flat_len h.len, h.1]; exact Nat.le_refl _)⟩
theorem RowAt.inn {α : Type} {B : Nat} {r : Rep α} {W : World} {a : Option Addr} {n c : Nat} {l : List α} (h : RowAt B r W (.slice a n c) l) : RowIn r W a l := by
  obtain ⟨a', c', h1, _, _, _, h2⟩ := h
  simp only [Value.slice.injEq] at h1
  rw [h1.1]; exact h2

section
variable {P : Program} {w : World}
theorem run_append_none {base : Nat} {t ty e : TypeId} {i : TypeInfo} {size : Nat} (ht : P.underlying t = some (.slice e)) (hi : P.info? e = some i)
    {v : Value} {n : Nat} {xs : List Value} (hown : w.ownsRow base e size v n xs) (c : Nat) : (Builtin.append_ #[t, t] ty #[v, .slice none 0 c]).run P w = .ok v w := by
  rcases hown.2 with ⟨rfl, rfl⟩ | ⟨g, cap, cur, rfl, _, _, hnc, _⟩
  · simp [Builtin.append_, run_underlying ht, sizeOf, typeInfo, hi, Builtin.lenOf, Builtin.firstCells]
  · simp [Builtin.append_, run_underlying ht, sizeOf, typeInfo, hi, Builtin.lenOf, Builtin.firstCells, hnc, storeCells]
/-- A row that came in, behind a row of the call's own. -/
theorem run_append_row {α : Type} {r : Rep α} {w0 : World} {base : Nat} {t ty e : TypeId} {i : TypeInfo} {z : Value} {bytes : Nat} (ht : P.underlying t = some (.slice e)) (hi : P.info? e = some i) (hz : i.zero = some z)
    (hsize : i.size = r.n) (hby : i.bytes = bytes) (hzs : z.cells.size = r.n) (hsz : 0 < r.n)
    {v : Value} {n : Nat} {xs : List Value} (hown : w.ownsRow base e r.n v n xs) {A : Option Addr} {l : List α} (c : Nat) (hr : RowIn r w0 A l) (hb0 : Below w0.heap.size w0 w)
    (hone : ∀ W cs x, r.at_ W cs x → ∀ u ∈ cs, u.oneCell' = true) (h63 : n + l.length ≤ maxLen) (hbytes : (n + l.length) * bytes ≤ 140737488355328) (hbase : base ≤ w.heap.size) :
    ∃ css v' w', Lists r w0 css l ∧ (Builtin.append_ #[t, t] ty #[v, .slice A l.length c]).run P w = .ok v' w' ∧ w'.ownsRow base e r.n v' (n + l.length) (xs ++ css.flatten) ∧ w.grownBy w' v.ownBlock ∧
      (v'.ownBlock = v.ownBlock ∨ v'.ownBlock = some w.heap.size) := by
  have hr0 := hr
  obtain ⟨css, hL, hcells⟩ := hr.lists
  cases A with
  | none =>
    have hl : l = [] := by
      rcases hr0 with h | ⟨_, _, h, _⟩
      · exact h
      · cases h
    subst hl
    have hc0 : css = [] := List.length_eq_zero_iff.1 hL.1
    subst hc0
    exact ⟨[], v, w, hL, run_append_none ht hi hown c, by simpa using hown, World.grownBy.refl w _, .inl rfl⟩
  | some ad =>
    have hl2 : css.flatten.length = l.length * r.n := by rw [flat_len hL.len, hL.1]
    have h1 : ∀ u ∈ css.flatten, u.oneCell' = true := by
      intro u hu
      obtain ⟨cs, hc, hu⟩ := List.mem_flatten.1 hu
      obtain ⟨k, hk, rfl⟩ := List.getElem_of_mem hc
      exact hone _ _ (l[k]'(by rw [← hL.1]; exact hk)) (hL.2 k _ _ (List.getElem?_eq_getElem hk) (List.getElem?_eq_getElem _)) u hu
    have hcw : ∀ j u, css.flatten[j]? = some u → w.cell? (ad.add j) = some u := fun j u hu => by
      have hc := hcells ad rfl j u hu
      exact (hb0.cell (World.block_lt_of_cell? w0 _ hc)).trans hc
    obtain ⟨v', w', h2, h3, h4, _, h5⟩ := run_append_own_at (P := P) w base t ty e i z r.n bytes ht hi hz hsize hby hzs hsz v n xs hown ad l.length c css.flatten hl2 hcw h1 h63 hbytes hbase
    exact ⟨css, v', w', hL, h2, h3, h4, h5⟩
theorem wpList_append_row {ops : Array Oper} {rest : List Oper} {o : Oper} {a : Act} {Q : Exit → Act → World → Prop} {α : Type} {r : Rep α} {w0 : World} {base : Nat} {e : TypeId} {i : TypeInfo} {z : Value} {bytes : Nat} (hgd : o.guard = none) (s x : Operand) (t : TypeId)
    (ho : o.op = .call { callee := .builtin .append, args := #[s, x], argTypes := #[t, t] }) (ht : P.underlying t = some (.slice e)) (hi : P.info? e = some i) (hz : i.zero = some z)
    (hsize : i.size = r.n) (hby : i.bytes = bytes) (hzs : z.cells.size = r.n) (hsz : 0 < r.n)
    {v : Value} {n : Nat} {xs : List Value} (hs : a.eval s = v) (hown : w.ownsRow base e r.n v n xs) {A : Option Addr} {l : List α} {c m : Nat} (hm : m = l.length) (hx : a.eval x = .slice A m c) (hr : RowIn r w0 A l) (hb0 : Below w0.heap.size w0 w)
    (hone : ∀ W cs x, r.at_ W cs x → ∀ u ∈ cs, u.oneCell' = true) (h63 : n + l.length ≤ maxLen) (hbytes : (n + l.length) * bytes ≤ 140737488355328) (hbase : base ≤ w.heap.size)
    (h : ∀ css v' w', Lists r w0 css l → w'.ownsRow base e r.n v' (n + l.length) (xs ++ css.flatten) → w.grownBy w' v.ownBlock → (v'.ownBlock = v.ownBlock ∨ v'.ownBlock = some w.heap.size) → wpList P ops Q rest (a.put o.dst v') w') :
    wpList P ops Q (o :: rest) a w := by
  subst hm
  refine wpList_plain hgd fun K hK => ?_
  obtain ⟨css, v', w', hL, hrun, h2, h3, h5⟩ := run_append_row (P := P) (w := w) (ty := o.type) ht hi hz hsize hby hzs hsz hown c hr hb0 hone h63 hbytes hbase
  unfold Oper.wp execOp
  simp only [ho, resolve, invoke, builtin, Sem.run_bind, Sem.run_pure, Result.andThen_ok, List.map_toArray, List.map_cons, List.map_nil, hs, hx, hrun]
  exact hK _ _ (h css v' w' hL h2 h3 h5)
end
theorem cells_new {w : World} {g : Nat} (hg : g = w.heap.size) (cs : Array Value) (t : TypeId) : ∀ (j : Nat) (u : Value), cs.toList[j]? = some u → (w.alloc (.cells cs t)).cell? ((⟨g, 0, none⟩ : Addr).add j) = some u := by
  subst hg
  intro j u hu
  rw [addr_add, Nat.zero_add, cell_of_row _ w.heap.size j cs t (0, 0) (heap_alloc_new w _), ← Array.getElem?_toList, hu]
theorem own_form {w : World} {base : Nat} {e : TypeId} {size : Nat} {v : Value} {n : Nat} {xs : List Value} (h : w.ownsRow base e size v n xs) : ∃ a c, v = .slice a n c := by
  rcases h.2 with ⟨h1, h2⟩ | ⟨g, cap, cur, hv, _⟩
  · subst h2; exact ⟨none, 0, h1⟩
  · exact ⟨_, _, hv⟩
theorem own_stays {w w' : World} {base : Nat} {e : TypeId} {size : Nat} {v : Value} {n : Nat} {xs : List Value} (h : w.ownsRow base e size v n xs) (hs : ∀ i, base ≤ i → i < w.heap.size → w'.heap[i]? = w.heap[i]?) : w'.ownsRow base e size v n xs := by
  refine ⟨h.1, ?_⟩
  rcases h.2 with h1 | ⟨g, cap, cur, hv, hb, hg, h2⟩
  · exact .inl h1
  · exact .inr ⟨g, cap, cur, hv, hb, (hs g hb (Array.getElem?_eq_some_iff.1 hg).1).trans hg, h2⟩
theorem own_flat {w : World} {base : Nat} {e : TypeId} {size : Nat} {v : Value} {n : Nat} {css : List (List Value)} {ys : List Value} (h : w.ownsRow base e size v n (css.flatten ++ ys)) (dss : List (List Value)) (hy : dss.flatten = ys) : w.ownsRow base e size v n (css ++ dss).flatten := by
  rw [List.flatten_append, hy]; exact h
theorem own_base {w : World} {base b2 : Nat} {e : TypeId} {size : Nat} {v : Value} {n : Nat} {xs : List Value} (h : w.ownsRow base e size v n xs) (hb : b2 ≤ base) : w.ownsRow b2 e size v n xs := by
  refine ⟨h.1, ?_⟩
  rcases h.2 with h1 | ⟨g, cap, cur, hv, hb2, h2⟩
  · exact .inl h1
  · exact .inr ⟨g, cap, cur, hv, Nat.le_trans hb hb2, h2⟩
theorem grown_old {w w' : World} {v : Value} {base : Nat} {e : TypeId} {s n : Nat} {xs : List Value} (hg : w.grownBy w' v.ownBlock) (hown : w.ownsRow base e s v n xs) {i : Nat} (hi : i < w.heap.size) (hb : i < base) : w'.heap[i]? = w.heap[i]? :=
  hg.block i hi fun e => by have := (hown.lt i e.symm).1; omega
theorem blk_frozen {W : World} {b : Nat} {cs : Array Value} {T : TypeId} (h : W.heap[b]? = some (.cells cs T (0, 0))) (j : Nat) : W.frozen? ⟨b, j, none⟩ = false := by simp [World.frozen?, h]
theorem blk_cell {W : World} {b : Nat} {cs : Array Value} {T : TypeId} (h : W.heap[b]? = some (.cells cs T (0, 0))) (j : Nat) : W.cell? ⟨b, j, none⟩ = cs[j]? := cell_of_row W b j cs T (0, 0) h
theorem blk_set {W : World} {b : Nat} {cs : Array Value} {T : TypeId} {fz : Nat × Nat} (h : W.heap[b]? = some (.cells cs T fz)) (j : Nat) (u : Value) : (W.setCell ⟨b, j, none⟩ u).heap[b]? = some (.cells (cs.setIfInBounds j u) T fz) := by
  simp [World.setCell, Array.getElem?_modify, h]
theorem blk_far {W : World} {b : Nat} {p : Addr} (u : Value) (hp : b ≠ p.block) : (W.setCell p u).heap[b]? = W.heap[b]? := Below.heap_setCell W p u b hp
theorem blk_later {W w : World} {b : Nat} {o : Obj} (h : W.heap[b]? = some o) (hb : Below W.heap.size W w) : w.heap[b]? = some o := (hb.block b (Array.getElem?_eq_some_iff.1 h).1).trans h
/-- Own rows keep what lies below them. -/
theorem below_own {w0 w w' : World} {v : Value} {base : Nat} {e : TypeId} {s n : Nat} {xs : List Value} (hb : Below w0.heap.size w0 w) (hg : w.grownBy w' v.ownBlock) (hown : w.ownsRow base e s v n xs) (hbase : w0.heap.size ≤ base) : Below w0.heap.size w0 w' :=
  hb.grown hg hb.size fun k hk => Nat.le_trans hbase (hown.lt k hk).1
end Go.Proofs.YthflpgeonllgdaaDoor.rep
