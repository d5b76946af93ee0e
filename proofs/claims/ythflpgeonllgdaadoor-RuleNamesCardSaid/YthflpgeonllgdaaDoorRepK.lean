/- Worlds in which some blocks of the call's own are written: what else was there is as it was. -/
import Derived.Test.YthflpgeonllgdaaDoorRepA
namespace Go.Proofs.YthflpgeonllgdaaDoor.rep
open Go.RowKit

def Kept (X : Nat → Prop) (w w' : World) : Prop := w.heap.size ≤ w'.heap.size ∧ ∀ i, i < w.heap.size → ¬ X i → w'.heap[i]? = w.heap[i]?
section
variable {w w' w'' : World} {X : Nat → Prop}
theorem Kept.refl (w : World) (X : Nat → Prop) : Kept X w w := ⟨Nat.le_refl _, fun _ _ _ => rfl⟩
theorem Kept.of_below (h : Below w.heap.size w w') : Kept (fun _ => False) w w' := ⟨h.size, fun i hi _ => h.block i hi⟩
theorem Kept.alloc (w : World) (o : Obj) : Kept (fun _ => False) w (w.alloc o) := Kept.of_below ((Below.refl _ _).alloc (Nat.le_refl _) o)
theorem Kept.grown {v : Value} (h : w.grownBy w' v.ownBlock) : Kept (fun i => v.ownBlock = some i) w w' := ⟨h.size, fun i hi hx => h.block i hi fun e => hx e.symm⟩
theorem Kept.set (w : World) (g j : Nat) (u : Value) : Kept (fun i => i = g) w (w.setCell ⟨g, j, none⟩ u) := ⟨by simp [World.setCell], fun i _ hx => blk_far u (by exact hx)⟩
theorem Kept.mono {Y : Nat → Prop} (h : Kept X w w') (hy : ∀ i, X i → Y i) : Kept Y w w' := ⟨h.1, fun i hi hx => h.2 i hi fun e => hx (hy i e)⟩
theorem Kept.trans (h : Kept X w w') (k : Kept X w' w'') : Kept X w w'' := ⟨Nat.le_trans h.1 k.1, fun i hi hx => (k.2 i (Nat.lt_of_lt_of_le hi h.1) hx).trans (h.2 i hi hx)⟩
theorem blk_lt {i : Nat} {o : Obj} (h : w.heap[i]? = some o) : i < w.heap.size := (Array.getElem?_eq_some_iff.1 h).1
theorem Kept.blk (h : Kept X w w') {i : Nat} {o : Obj} (hi : w.heap[i]? = some o) (hx : ¬ X i) : w'.heap[i]? = some o := (h.2 i (blk_lt hi) hx).trans hi
theorem Kept.own (h : Kept X w w') {base : Nat} {e : TypeId} {s : Nat} {v : Value} {n : Nat} {xs : List Value} (ho : w.ownsRow base e s v n xs) (hx : ∀ k, v.ownBlock = some k → ¬ X k) : w'.ownsRow base e s v n xs := by
  refine ⟨ho.1, ?_⟩
  rcases ho.2 with h1 | ⟨g, cap, cur, hv, hb, hg, h2⟩
  · exact .inl h1
  · exact .inr ⟨g, cap, cur, hv, hb, h.blk hg (hx g (by rw [hv]; rfl)), h2⟩
/-- A row of the call's own is no block of another type. -/
theorem own_ne {base : Nat} {e : TypeId} {s : Nat} {v : Value} {n : Nat} {xs : List Value} (ho : w.ownsRow base e s v n xs) {g : Nat} {cs : Array Value} {T : TypeId} {fz : Nat × Nat} (hg : w.heap[g]? = some (.cells cs T fz)) (hne : e ≠ T) : v.ownBlock ≠ some g := by
  rcases ho.2 with ⟨rfl, _⟩ | ⟨g', cap, cur, rfl, _, hh, _⟩
  · simp [Value.ownBlock]
  · intro he
    have : g' = g := by simpa [Value.ownBlock] using he
    subst this
    rw [hh] at hg
    simp only [Option.some.injEq, Obj.cells.injEq] at hg
    exact hne hg.2.1
theorem own_ne_own {base base2 : Nat} {e e2 : TypeId} {s s2 : Nat} {v v2 : Value} {n n2 : Nat} {xs ys : List Value} (ho : w.ownsRow base e s v n xs) (h2 : w.ownsRow base2 e2 s2 v2 n2 ys) (hne : e ≠ e2) : ∀ k, v.ownBlock = some k → ¬ v2.ownBlock = some k := by
  intro k hk hk2
  rcases h2.2 with ⟨rfl, _⟩ | ⟨g', cap, cur, rfl, _, hh, _⟩
  · simp [Value.ownBlock] at hk2
  · have : g' = k := by simpa [Value.ownBlock] using hk2
    subst this
    exact own_ne ho hh hne hk
theorem own_ne_base {w2 : World} {base base2 : Nat} {e e2 : TypeId} {s s2 : Nat} {v v2 : Value} {n n2 : Nat} {xs ys : List Value} (ho : w.ownsRow base e s v n xs) (h2 : w2.ownsRow base2 e2 s2 v2 n2 ys) (hle : w.heap.size ≤ base2) : ∀ k, v.ownBlock = some k → ¬ v2.ownBlock = some k := by
  intro k hk hk2
  have h3 := (ho.lt k hk).2
  have h4 := (h2.lt k hk2).1
  omega
theorem own_cell {v : Value} {g : Nat} (hx : v.ownBlock ≠ some g) : ∀ k, v.ownBlock = some k → ¬ (k = g) := by
  rintro k hk rfl; exact hx hk
end
/-- Behind an append to a row that was just made. -/
theorem Kept.fresh {w w' : World} {o : Obj} {g : Nat} (hg : (w.alloc o).grownBy w' (Value.slice (some ⟨g, 0, none⟩) 0 0).ownBlock) (hgw : g = w.heap.size) : Kept (fun i => i = w.heap.size) w w' := by
  subst hgw
  exact ((Kept.alloc w o).mono fun _ h => h.elim).trans ((Kept.grown hg).mono fun i h => by simp [Value.ownBlock] at h; exact h.symm)
theorem Kept.blk_fresh {w w' : World} (h : Kept (fun i => i = w.heap.size) w w') {i : Nat} {o : Obj} (hi : w.heap[i]? = some o) : w'.heap[i]? = some o := h.blk hi fun e => by have := blk_lt hi; omega
theorem Kept.own_fresh {w w' : World} (h : Kept (fun i => i = w.heap.size) w w') {base : Nat} {e : TypeId} {s : Nat} {v : Value} {n : Nat} {xs : List Value} (ho : w.ownsRow base e s v n xs) : w'.ownsRow base e s v n xs := h.own ho fun k hk e => by have := (ho.lt k hk).2; omega
theorem set_size (w : World) (g j : Nat) (u : Value) : (w.setCell ⟨g, j, none⟩ u).heap.size = w.heap.size := by simp [World.setCell]
/-- A row that was there is not in the blocks of one that was made later. -/
theorem own_apart_fresh {w w2 : World} {base base2 : Nat} {e e2 : TypeId} {s s2 : Nat} {v v2 : Value} {n n2 : Nat} {xs ys : List Value} (ho : w.ownsRow base e s v n xs) (h2 : w2.ownsRow base2 e2 s2 v2 n2 ys) (hle : w.heap.size ≤ base2 := by simp) : ∀ k, v.ownBlock = some k → ¬ v2.ownBlock = some k := own_ne_base ho h2 hle
theorem own_set {w : World} {base : Nat} {e : TypeId} {s : Nat} {v : Value} {n : Nat} {xs : List Value} (ho : w.ownsRow base e s v n xs) {g : Nat} {cs : Array Value} {T : TypeId} {fz : Nat × Nat} (hg : w.heap[g]? = some (.cells cs T fz)) (hne : e ≠ T) (j : Nat) (u : Value) : (w.setCell ⟨g, j, none⟩ u).ownsRow base e s v n xs :=
  (Kept.set w g j u).own ho (own_cell (own_ne ho hg hne))
theorem blk_set_far {w : World} {i g : Nat} {o : Obj} (hi : w.heap[i]? = some o) (hne : i ≠ g) (j : Nat) (u : Value) : (w.setCell ⟨g, j, none⟩ u).heap[i]? = some o := (Kept.set w g j u).blk hi hne
theorem blk_alloc {w : World} {i : Nat} {o : Obj} (hi : w.heap[i]? = some o) (p : Obj) : (w.alloc p).heap[i]? = some o := (Kept.alloc w p).blk hi fun h => h
section
variable {P : Program} {w : World}
/-- A row of the call's own behind another one. -/
theorem run_append_own2 {base base2 : Nat} {t ty e : TypeId} {i : TypeInfo} {z : Value} {size bytes : Nat} (ht : P.underlying t = some (.slice e)) (hi : P.info? e = some i) (hz : i.zero = some z)
    (hsize : i.size = size) (hby : i.bytes = bytes) (hzs : z.cells.size = size) (hsz : 0 < size)
    {v : Value} {n : Nat} {xs : List Value} (hown : w.ownsRow base e size v n xs) {v2 : Value} {m : Nat} {ys : List Value} (h2 : w.ownsRow base2 e size v2 m ys)
    (hone : ∀ u ∈ ys, u.oneCell' = true) (h63 : n + m ≤ maxLen) (hbytes : (n + m) * bytes ≤ 140737488355328) (hbase : base ≤ w.heap.size) :
    ∃ v' w', (Builtin.append_ #[t, t] ty #[v, v2]).run P w = .ok v' w' ∧ w'.ownsRow base e size v' (n + m) (xs ++ ys) ∧ w.grownBy w' v.ownBlock ∧ (v'.ownBlock = v.ownBlock ∨ v'.ownBlock = some w.heap.size) := by
  have hl := h2.1
  rcases h2.2 with ⟨rfl, rfl⟩ | ⟨g, cap, cur, rfl, _, hg, _, _, _, htk⟩
  · rw [Nat.zero_mul] at hl
    obtain rfl := List.length_eq_zero_iff.1 hl
    exact ⟨v, w, run_append_none ht hi hown 0, by simpa using hown, World.grownBy.refl w _, .inl rfl⟩
  · obtain ⟨v', w', h3, h4, h5, _, h6⟩ := run_append_own_at (P := P) w base t ty e i z size bytes ht hi hz hsize hby hzs hsz v n xs hown ⟨g, 0, none⟩ m cap ys hl (h2.cells rfl) hone h63 hbytes hbase
    exact ⟨v', w', h3, h4, h5, h6⟩
theorem wpList_append_own2 {ops : Array Oper} {rest : List Oper} {o : Oper} {a : Act} {Q : Exit → Act → World → Prop} {base base2 : Nat} {e : TypeId} {i : TypeInfo} {z : Value} {size bytes : Nat} (hgd : o.guard = none) (s x : Operand) (t : TypeId)
    (ho : o.op = .call { callee := .builtin .append, args := #[s, x], argTypes := #[t, t] }) (ht : P.underlying t = some (.slice e)) (hi : P.info? e = some i) (hz : i.zero = some z)
    (hsize : i.size = size) (hby : i.bytes = bytes) (hzs : z.cells.size = size) (hsz : 0 < size)
    {v : Value} {n : Nat} {xs : List Value} (hs : a.eval s = v) (hown : w.ownsRow base e size v n xs) {v2 : Value} {m : Nat} {ys : List Value} (hx : a.eval x = v2) (h2 : w.ownsRow base2 e size v2 m ys)
    (hone : ∀ u ∈ ys, u.oneCell' = true) (h63 : n + m ≤ maxLen) (hbytes : (n + m) * bytes ≤ 140737488355328) (hbase : base ≤ w.heap.size)
    (h : ∀ v' w', w'.ownsRow base e size v' (n + m) (xs ++ ys) → w.grownBy w' v.ownBlock → (v'.ownBlock = v.ownBlock ∨ v'.ownBlock = some w.heap.size) → wpList P ops Q rest (a.put o.dst v') w') :
    wpList P ops Q (o :: rest) a w := by
  refine wpList_plain hgd fun K hK => ?_
  obtain ⟨v', w', hrun, h3, h4, h5⟩ := run_append_own2 (P := P) (w := w) (ty := o.type) ht hi hz hsize hby hzs hsz hown h2 hone h63 hbytes hbase
  unfold Oper.wp execOp
  simp only [ho, resolve, invoke, builtin, Sem.run_bind, Sem.run_pure, Result.andThen_ok, List.map_toArray, List.map_cons, List.map_nil, hs, hx, hrun]
  exact hK _ _ (h v' w' h3 h4 h5)
end
theorem lists_one {α : Type} {r : Rep α} {W : World} {css : List (List Value)} {l : List α} (hL : Lists r W css l) (hone : ∀ W cs x, r.at_ W cs x → ∀ u ∈ cs, u.oneCell' = true) : ∀ u ∈ css.flatten, u.oneCell' = true := by
  intro u hu
  obtain ⟨cs, hc, hu⟩ := List.mem_flatten.1 hu
  obtain ⟨k, hk, rfl⟩ := List.getElem_of_mem hc
  exact hone _ _ (l[k]'(by rw [← hL.1]; exact hk)) (hL.2 k _ _ (List.getElem?_eq_getElem hk) (List.getElem?_eq_getElem _)) u hu
end Go.Proofs.YthflpgeonllgdaaDoor.rep
