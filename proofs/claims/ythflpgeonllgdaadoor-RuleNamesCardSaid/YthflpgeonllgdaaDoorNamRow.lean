/- Layer 3: a row of the call's own whose block may bear a mark behind its end (a text turned into bytes): appended to, read. -/
import Derived.Test.YthflpgeonllgdaaDoorNamRefS
import Derived.ArgAppend
import Derived.Laws.IdiomStrings
namespace Go.Proofs.YthflpgeonllgdaaDoor.nam
open Go.RowKit Go.Shelf

/-- A slice of one-cell elements over a whole block of the call's own; of the block at most what is behind its end is marked. -/
def RowF (w : World) (base : Nat) (T : TypeId) (g n cap : Nat) (xs : List Value) : Prop :=
  base ≤ g ∧ n ≤ cap ∧ cap ≤ maxLen ∧ ∃ cur fz, w.heap[g]? = some (.cells cur T fz) ∧ (fz = (0, 0) ∨ cap ≤ fz.1) ∧ cur.size = cap ∧ cur.toList.take n = xs

section
variable {w w' : World} {base : Nat} {T : TypeId} {g n cap : Nat} {xs : List Value}
theorem RowF.len (h : RowF w base T g n cap xs) : xs.length = n := by
  obtain ⟨_, hn, _, cur, fz, _, _, hs, rfl⟩ := h
  rw [List.length_take, Array.length_toList]; omega
theorem RowF.lt (h : RowF w base T g n cap xs) : g < w.heap.size := by
  obtain ⟨_, _, _, cur, fz, hg, _⟩ := h
  rcases Nat.lt_or_ge g w.heap.size with hl | hl
  · exact hl
  · rw [Array.getElem?_eq_none hl] at hg; cases hg
theorem RowF.cell (h : RowF w base T g n cap xs) (j : Nat) (hj : j < n) : w.cell? ⟨g, j, none⟩ = xs[j]? := by
  obtain ⟨_, hn, _, cur, fz, hg, _, hs, rfl⟩ := h
  rw [cell_of_row w g j cur T fz hg, List.getElem?_take, if_pos hj, Array.getElem?_toList]
theorem RowF.grown (h : RowF w base T g n cap xs) {row : Option Nat} (hg : w.grownBy w' row) (hne : some g ≠ row) : RowF w' base T g n cap xs := by
  have hl := h.lt
  obtain ⟨a, b, c, cur, fz, hh, r⟩ := h
  exact ⟨a, b, c, cur, fz, (hg.block g hl hne).trans hh, r⟩
theorem RowF.below (h : RowF w base T g n cap xs) (hb : Below w.heap.size w w') : RowF w' base T g n cap xs := by
  have hl := h.lt
  obtain ⟨a, b, c, cur, fz, hh, r⟩ := h
  exact ⟨a, b, c, cur, fz, (hb.block g hl).trans hh, r⟩
theorem RowF.alloc (h : RowF w base T g n cap xs) (o : Obj) : RowF (w.alloc o) base T g n cap xs := h.below ((Below.refl _ _).alloc (Nat.le_refl _) o)
theorem RowF.of_own {v : Value} (h : w.ownsRow base T 1 v n xs) (hn : 0 < n) : ∃ g cap, v = .slice (some ⟨g, 0, none⟩) n cap ∧ RowF w base T g n cap xs := by
  rcases h.2 with ⟨_, h0⟩ | ⟨g, cap, cur, hv, hb, hg, hnc, hcm, hcs, ht⟩
  · omega
  · exact ⟨g, cap, hv, hb, hnc, hcm, cur, (0, 0), hg, .inl rfl, by simpa using hcs, by simpa using ht⟩
end

theorem frozen_far {w : World} {g n : Nat} {cur : Array Value} {T : TypeId} {fz : Nat × Nat} {cap : Nat} (hg : w.heap[g]? = some (.cells cur T fz)) (hf : fz = (0, 0) ∨ cap ≤ fz.1) (hn : n < cap) : w.frozen? ⟨g, n, none⟩ = false := by
  simp only [World.frozen?, hg]
  rcases hf with rfl | hf
  · simp
  · simp; omega
/-- One element more. -/
theorem run_append_rowF {P : Program} {w : World} {base : Nat} {T : TypeId} {g n cap : Nat} {xs : List Value} (t ty : TypeId) (i : TypeInfo) (z : Value) (bytes : Nat) (ht : P.underlying t = some (.slice T)) (hi : P.info? T = some i) (hz : i.zero = some z)
    (hsize : i.size = 1) (hby : i.bytes = bytes) (hzs : z.cells.size = 1) (h : RowF w base T g n cap xs) (ad : Addr) (c : Nat) (u : Value) (hu : w.cell? ad = some u) (h1 : u.oneCell' = true)
    (h63 : n + 1 ≤ maxLen) (hbytes : (n + 1) * bytes ≤ 140737488355328) (hbase : base ≤ w.heap.size) :
    ∃ g' cap' w', (Builtin.append_ #[t, t] ty #[.slice (some ⟨g, 0, none⟩) n cap, .slice (some ad) 1 c]).run P w = .ok (.slice (some ⟨g', 0, none⟩) (n + 1) cap') w' ∧ RowF w' base T g' (n + 1) cap' (xs ++ [u]) ∧ w.grownBy w' (some g) := by
  have hnews : ∀ j x, [u][j]? = some x → w.cell? (ad.add j) = some x := fun j x hx => by
    cases j with
    | zero => simp at hx; subst hx; exact hu
    | succ j => simp at hx
  have hlen := h.len
  have hcell := h.cell
  have h' := h
  obtain ⟨hb, hnc, hcm, cur, fz, hg, hf, hs, htk⟩ := h'
  by_cases hroom : n + 1 ≤ cap
  · have hr := run_append_room_cells (P := P) w t ty T i ht hi g 0 n cap ad 1 c [u] (by simp [hsize]) hnews (by simp [h1]) hroom
      (fun j hj => by
        obtain rfl : j = 0 := by simpa using hj
        rw [hsize, cell_of_row w g _ cur T fz hg, Array.getElem?_eq_getElem (by omega)]; rfl)
      (fun j hj => by
        obtain rfl : j = 0 := by simpa using hj
        rw [hsize]
        exact frozen_far hg hf (by omega))
    have hw : w.setCells g (0 + n * i.size) [u] = w.setCell ⟨g, n, none⟩ u := by rw [hsize, Nat.zero_add, Nat.mul_one]; rfl
    rw [hw] at hr
    refine ⟨g, cap, _, hr, ⟨hb, hroom, hcm, cur.setIfInBounds n u, fz, ?_, hf, by simpa using hs, ?_⟩, ⟨rfl, rfl, rfl, by simp [World.setCell], fun k _ hk => Below.heap_setCell w ⟨g, n, none⟩ u k (fun e => hk (by rw [e]))⟩⟩
    · simp [World.setCell, Array.getElem?_modify, hg]
    · have hn : n < cur.size := by omega
      rw [Array.toList_setIfInBounds, List.take_succ_eq_append_getElem (by simp; omega), List.take_set_of_le (Nat.le_refl _), htk]
      simp
  · obtain ⟨v', w', hr, ho, hgr⟩ := run_append_arg_grows (P := P) w t ty T i z 1 bytes ht hi hz hsize hby hzs (by decide) ⟨g, 0, none⟩ n cap xs (by rw [hlen, Nat.mul_one])
      (fun j x hx => by
        have hj : j < n := by rw [← hlen]; exact (List.getElem?_eq_some_iff.1 hx).1
        have e : (⟨g, 0, none⟩ : Addr).add j = ⟨g, j, none⟩ := by unfold Addr.add; split <;> simp_all
        rw [e, hcell j hj, hx]) ad 1 c [u] rfl hnews (by omega) h63 hbytes
    obtain ⟨g', cap', rfl, hrow⟩ := RowF.of_own ho (by omega)
    refine ⟨g', cap', w', hr, ⟨Nat.le_trans hbase hrow.1, hrow.2⟩, ⟨hgr.os, hgr.tape, hgr.output, hgr.size, fun k hk _ => hgr.block k hk (by simp)⟩⟩
theorem wpList_append_rowF {P : Program} {w : World} {ops : Array Oper} {rest : List Oper} {o : Oper} {a : Act} {Q : Exit → Act → World → Prop} (hgd : o.guard = none) (s x : Operand) (t : TypeId)
    (ho : o.op = .call { callee := .builtin .append, args := #[s, x], argTypes := #[t, t] })
    {base : Nat} {T : TypeId} {g n cap : Nat} {xs : List Value} (i : TypeInfo) (z : Value) (bytes : Nat) (ht : P.underlying t = some (.slice T)) (hi : P.info? T = some i) (hz : i.zero = some z)
    (hsize : i.size = 1) (hby : i.bytes = bytes) (hzs : z.cells.size = 1) (hs : a.eval s = .slice (some ⟨g, 0, none⟩) n cap) (h : RowF w base T g n cap xs) (ad : Addr) (c : Nat) (u : Value) (hx : a.eval x = .slice (some ad) 1 c) (hu : w.cell? ad = some u) (h1 : u.oneCell' = true)
    (h63 : n + 1 ≤ maxLen) (hbytes : (n + 1) * bytes ≤ 140737488355328) (hbase : base ≤ w.heap.size)
    (hK : ∀ g' cap' w', RowF w' base T g' (n + 1) cap' (xs ++ [u]) → w.grownBy w' (some g) → wpList P ops Q rest (a.put o.dst (.slice (some ⟨g', 0, none⟩) (n + 1) cap')) w') : wpList P ops Q (o :: rest) a w := by
  refine wpList_plain hgd fun K hK' => ?_
  obtain ⟨g', cap', w', hrun, h2, h3⟩ := run_append_rowF (P := P) t o.type i z bytes ht hi hz hsize hby hzs h ad c u hu h1 h63 hbytes hbase
  unfold Oper.wp execOp
  simp only [ho, resolve, invoke, builtin, Sem.run_bind, Sem.run_pure, Result.andThen_ok, List.map_toArray, List.map_cons, List.map_nil, hs, hx, hrun]
  exact hK' _ _ (hK g' cap' w' h2 h3)

def u8s (xs : List Int) : List Value := xs.map (Value.int .u8)
/-- A text turned into bytes: a row of the call's own. -/
theorem conv_rowF (W : World) (x : ByteArray) (hx : x.size ≤ 1000000) : ∃ cap W', (convert 9 55 (.string x)).run Tryd.prog W = .ok (.slice (some ⟨W.heap.size, 0, none⟩) x.size cap) W' ∧ Below W.heap.size W W' ∧
    RowF W' W.heap.size 5 W.heap.size x.size cap (u8s (x.data.toList.map fun b => (b.toNat : Int))) := by
  have hge := grownCap_ge W x.size 0 5
  have hle : grownCap W x.size 0 5 ≤ maxLen := grownCap_le_maxLen W x.size 0 5 (by unfold maxLen; omega)
  have hsz : (bytesRow x (grownCap W x.size 0 5)).size = grownCap W x.size 0 5 := by
    have : x.data.size = x.size := rfl
    unfold bytesRow; simp; omega
  refine ⟨_, _, run_bytes_of_string W 9 55 5 x Tryd.underlying9 Tryd.underlying55 Tryd.underlying5, ((Below.refl _ W).drew).alloc (Nat.le_refl _) _,
    ⟨Nat.le_refl _, hge, hle, _, _, heap_alloc_new W.drew _, .inr (by rw [hsz]; exact Nat.le_refl _), hsz, ?_⟩⟩
  have hx : x.data.toList.length = x.size := Array.length_toList
  unfold bytesRow u8s
  rw [Array.toList_append, Array.toList_map, List.take_left' (by rw [List.length_map, hx]), List.map_map]
  rfl
end Go.Proofs.YthflpgeonllgdaaDoor.nam
