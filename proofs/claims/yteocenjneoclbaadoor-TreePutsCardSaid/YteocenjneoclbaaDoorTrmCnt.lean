/- Layer 4: Count and Depth. Layer 4: Row. Layer 4: what a row makes, plain; rows of items in the heap. -/
import Derived.Test.YteocenjneoclbaaDoorTrmWalk
namespace Go.Proofs.YteocenjneoclbaaDoor.tre
open Go.RowKit Go.Shelf

/-- The state is a number in a cell of a block of its own. -/
def Cell1 (B : Nat) (T : TypeId) (s : Int) (W : World) : Prop := W.heap[B]? = some (.cells #[.int .i64 s] T (0, 0))
def Own1 (B : Nat) (_ : Int) (_ : World) (b : Nat) : Prop := b = B
theorem vst1 (B : Nat) (T : TypeId) : Vst (Cell1 B T) (Own1 B) :=
  ⟨fun _ w _ h hb => (hb.block B (Array.getElem?_eq_some_iff.1 h).1).trans h, fun _ _ b h hb => by obtain rfl : b = B := hb; exact (Array.getElem?_eq_some_iff.1 h).1, fun _ _ _ _ _ _ h => h⟩
theorem blk_cell {w : World} {g : Nat} {cs : Array Value} {t : TypeId} (h : w.heap[g]? = some (.cells cs t (0, 0))) (i : Nat) : w.cell? ⟨g, i, none⟩ = cs[i]? := cell_of_row w g i cs t (0, 0) h
theorem blk_frozen {w : World} {g : Nat} {cs : Array Value} {t : TypeId} (h : w.heap[g]? = some (.cells cs t (0, 0))) (i : Nat) : w.frozen? ⟨g, i, none⟩ = false := by
  simp [World.frozen?, h]
theorem blk_set {w : World} {g : Nat} {cs : Array Value} {t : TypeId} (h : w.heap[g]? = some (.cells cs t (0, 0))) (i : Nat) (u : Value) : (w.setCell ⟨g, i, none⟩ u).heap[g]? = some (.cells (cs.setIfInBounds i u) t (0, 0)) := by
  simp [World.setCell, Array.getElem?_modify, h]
theorem blk_far {w : World} {a : Addr} {u : Value} {k : Nat} (h : k ≠ a.block) : (w.setCell a u).heap[k]? = w.heap[k]? := Below.heap_setCell _ _ _ _ h
theorem Keeps.set {X : Nat → Prop} {w w' : World} (h : Keeps X w w') {a : Addr} (ha : X a.block) (u : Value) : Keeps X w (w'.setCell a u) :=
  ⟨h.os, h.tape, h.output, by simp [World.setCell]; exact h.size, fun k hk hx => (blk_far (fun e => hx (by rw [e]; exact ha))).trans (h.block k hk hx)⟩
theorem cell1_step {B : Nat} {T : TypeId} {s : Int} {W : World} (h : Cell1 B T s W) (s' : Int) (o : Obj) : Step (Cell1 B T) (Own1 B) s W s' ((W.setCell ⟨B, 0, none⟩ (.int .i64 s')).alloc o) := by
  have h2 : (W.setCell ⟨B, 0, none⟩ (.int .i64 s')).heap[B]? = some (.cells #[.int .i64 s'] T (0, 0)) := blk_set h 0 _
  have hk : Keeps (Own1 B s W) W (W.setCell ⟨B, 0, none⟩ (.int .i64 s')) := (Keeps.of_below (X := Own1 B s W) (Below.refl _ _)).set (a := ⟨B, 0, none⟩) (show Own1 B s W B from rfl) _
  have hb := (Below.refl (W.setCell ⟨B, 0, none⟩ (.int .i64 s')).heap.size _).alloc (Nat.le_refl _) o
  exact ⟨(hb.block B (Array.getElem?_eq_some_iff.1 h2).1).trans h2, fun _ hb => .inl hb, hk.trans (Keeps.of_below (X := fun _ => False) hb) (fun _ e => e.elim)⟩

/-- A visit more. -/
def incN (s : Int) (_ : V) (_ : ByteArray) (_ : Int) : Bool × Int := (true, wrap64 (s + 1))
def deepN (s : Int) (_ : V) (_ : ByteArray) (d : Int) : Bool × Int := (true, max s (d + 1))
theorem visits_inc (N B : Nat) (T : TypeId) : Visits (fun _ => True) (fun _ => 0) N (Cell1 B T) (Own1 B) 47 #[.pointer (some ⟨B, 0, none⟩)] incN := by
  refine ⟨enters_of Tryd.func47 (by kernel_rfl) rfl, fun _ _ _ _ => Nat.zero_le _, fun v key d S s W r t _ _ _ _ hi _ _ => ?_⟩
  have hl := (Array.getElem?_eq_some_iff.1 hi).1
  have c0 : W.cell? ⟨B, 0, none⟩ = some (.int .i64 s) := by rw [blk_cell hi]; rfl
  have f0 := blk_frozen hi 0
  have hst := cell1_step hi (wrap64 (s + 1))
  have Hst := Lib.hid hst
  clear hst hi
  go_enter Tryd.func47, Tryd.ntmps47
  go_wp2
  go_ret
  exact ⟨rfl, Hst.out _⟩
theorem visits_deep (N B : Nat) (T : TypeId) : Visits (fun _ => True) (fun _ => 0) N (Cell1 B T) (Own1 B) 46 #[.pointer (some ⟨B, 0, none⟩)] deepN := by
  refine ⟨enters_of Tryd.func46 (by kernel_rfl) rfl, fun _ _ _ _ => Nat.zero_le _, fun v key d S s W r t _ _ h0 h1 hi _ _ => ?_⟩
  have hl := (Array.getElem?_eq_some_iff.1 hi).1
  have c0 : W.cell? ⟨B, 0, none⟩ = some (.int .i64 s) := by rw [blk_cell hi]; rfl
  have f0 := blk_frozen hi 0
  have w1 : IntKind.i64.wrap (d + 1) = d + 1 := IntWalk.i64_in _ (by omega)
  have hst := cell1_step hi (max s (d + 1))
  have Hst := Lib.hid hst
  clear hst hi
  go_enter Tryd.func46, Tryd.ntmps46
  go_wp2
  go_ret
  exact ⟨rfl, Hst.out _⟩

theorem wr (x : Int) (h0 : 0 ≤ x) (h1 : x < 9223372036854775808) : wrap64 x = x :=
  IntWalk.wrap64_in x (by omega)
theorem walk_inc : ∀ (v : V) (key : ByteArray) (d s : Int), 0 ≤ s → s + countV v < 9223372036854775808 → walkS incN v key d s = (true, s + countV v) := V.ind fun v ihl ihf => by
  intro key d s h0 h1
  have hl : ∀ (l : List V), (∀ x ∈ l, x ∈ v.list) → ∀ s : Int, 0 ≤ s → s + sumN (l.map countV) < 9223372036854775808 → allS (inL incN d) s l = (true, s + sumN (l.map countV)) := by
    intro l
    induction l with
    | nil => intro _ s _ _; simp [allS, sumN]
    | cons x l ih =>
      intro hm s h0 h1
      simp only [List.map_cons, sumN] at h1 ⊢
      unfold allS
      have hx : inL incN d s x = (true, s + countV x) := ihl x (hm x (by simp)) _ _ _ h0 (by omega)
      rw [hx]
      simp only [if_true]
      rw [ih (fun y hy => hm y (by simp [hy])) _ (by omega) (by omega)]
      congr 1; omega
  have hf : ∀ (l : List (ByteArray × V)), (∀ x ∈ l, x ∈ v.fields) → ∀ s : Int, 0 ≤ s → s + sumN (l.map fun g => countV g.2) < 9223372036854775808 → allS (inF incN d) s l = (true, s + sumN (l.map fun g => countV g.2)) := by
    intro l
    induction l with
    | nil => intro _ s _ _; simp [allS, sumN]
    | cons x l ih =>
      intro hm s h0 h1
      simp only [List.map_cons, sumN] at h1 ⊢
      unfold allS
      have hx : inF incN d s x = (true, s + countV x.2) := ihf x (hm x (by simp)) _ _ _ h0 (by omega)
      rw [hx]
      simp only [if_true]
      rw [ih (fun y hy => hm y (by simp [hy])) _ (by omega) (by omega)]
      congr 1; omega
  have hc := countV_eq v
  rw [walkS_eq]
  unfold incN
  simp only [if_true]
  rw [wr _ (by omega) (by omega)]
  have e1 := hl v.list (fun _ h => h) (s + 1) (by omega) (by omega)
  have e2 := hf v.fields (fun _ h => h) (s + 1 + sumN (v.list.map countV)) (by omega) (by omega)
  unfold incN at e1 e2
  rw [e1]
  simp only [if_true]
  rw [e2]
  congr 1; omega
theorem walk_deep : ∀ (v : V) (key : ByteArray) (d s : Int), walkS deepN v key d s = (true, max s (d + depthV v)) := V.ind fun v ihl ihf => by
  intro key d s
  have hl : ∀ (l : List V), (∀ x ∈ l, x ∈ v.list) → ∀ s : Int, d + 1 ≤ s → allS (inL deepN d) s l = (true, max s (d + 1 + maxN (l.map depthV))) := by
    intro l
    induction l with
    | nil => intro _ s h; simp [allS, maxN]; omega
    | cons x l ih =>
      intro hm s h
      simp only [List.map_cons, maxN]
      unfold allS
      have hx : inL deepN d s x = (true, max s (d + 1 + depthV x)) := ihl x (hm x (by simp)) _ _ _
      rw [hx]
      simp only [if_true]
      rw [ih (fun y hy => hm y (by simp [hy])) _ (by omega)]
      congr 1; omega
  have hf : ∀ (l : List (ByteArray × V)), (∀ x ∈ l, x ∈ v.fields) → ∀ s : Int, d + 1 ≤ s → allS (inF deepN d) s l = (true, max s (d + 1 + maxN (l.map fun g => depthV g.2))) := by
    intro l
    induction l with
    | nil => intro _ s h; simp [allS, maxN]; omega
    | cons x l ih =>
      intro hm s h
      simp only [List.map_cons, maxN]
      unfold allS
      have hx : inF deepN d s x = (true, max s (d + 1 + depthV x.2)) := ihf x (hm x (by simp)) _ _ _
      rw [hx]
      simp only [if_true]
      rw [ih (fun y hy => hm y (by simp [hy])) _ (by omega)]
      congr 1; omega
  have hc := depthV_eq v
  rw [walkS_eq]
  unfold deepN
  simp only [if_true]
  have e1 := hl v.list (fun _ h => h) (max s (d + 1)) (by omega)
  have e2 := hf v.fields (fun _ h => h) (max (max s (d + 1)) (d + 1 + maxN (v.list.map depthV))) (by omega)
  unfold deepN at e1 e2
  rw [e1]
  simp only [if_true]
  rw [e2]
  congr 1
  rw [hc]
  omega

/-- Count. -/
theorem Count_any (v : V) (hv : depthV v < 4611686018427387904) (hc : countV v < 9223372036854775808) (S : Nat → Prop) (W : World) (r t : Sl) (hS : ∀ g, S g → g < W.heap.size) (hh : HV S W v r t) :
    Calls Tryd.prog 18 #[.agg #[.int .i64 v.kind, .int .i64 v.int, .string v.text, .slice r.a r.n r.c, .slice t.a t.n t.c]] W fun e w' => e = .returned (.int .i64 (countV v)) ∧ Below W.heap.size W w' := by
  have hb2 : ∀ o1 o2, Below W.heap.size W ((W.alloc o1).alloc o2) := fun o1 o2 => ((Below.refl _ _).alloc (Nat.le_refl _) o1).alloc (by rw [size_alloc]; omega) o2
  have hcall := fun o1 T => walk_any (fun _ _ => ⟨fun _ _ => trivial, fun _ _ => trivial⟩) (s := 0) (vst1 (W.heap.size + 1) T) (visits_inc (countV v) (W.heap.size + 1) T) v trivial (Nat.le_of_eq (Nat.zero_add _)) hv S ((W.alloc o1).alloc (.cells #[.int .i64 0] T)) r t (by have := block_new (W.alloc o1) (.cells #[.int .i64 0] T); rwa [size_alloc] at this)
    (fun g hg => ⟨Nat.lt_of_lt_of_le (hS g hg) (hb2 _ _).size, fun e => by have := hS g hg; obtain rfl : g = W.heap.size + 1 := e; omega⟩) (hh.later (hb2 _ _))
  rw [walk_inc v ⟨#[]⟩ 0 0 (by omega) (by omega)] at hcall
  simp only [Int.zero_add] at hcall
  have Hb := Lib.hid hb2
  clear hh hS hb2 hc hv
  go_enter Tryd.func18, Tryd.ntmps18
  go_wp2_with fail
  refine (hcall _ _).mono ?_
  rintro e w1 ⟨rfl, hs1⟩
  have c0 : w1.cell? ⟨W.heap.size + 1, 0, none⟩ = some (.int .i64 (countV v)) := by rw [blk_cell hs1.inv]; rfl
  go_wp2
  go_ret
  exact ⟨rfl, (Hb.out _ _).trans (hs1.keeps.below (fun k hk => by obtain rfl : k = W.heap.size + 1 := hk; omega) (Hb.out _ _).size)⟩

/-- Depth. -/
theorem Depth_any (v : V) (hv : depthV v < 4611686018427387904) (S : Nat → Prop) (W : World) (r t : Sl) (hS : ∀ g, S g → g < W.heap.size) (hh : HV S W v r t) :
    Calls Tryd.prog 16 #[.agg #[.int .i64 v.kind, .int .i64 v.int, .string v.text, .slice r.a r.n r.c, .slice t.a t.n t.c]] W fun e w' => e = .returned (.int .i64 (depthV v)) ∧ Below W.heap.size W w' := by
  have hb2 : ∀ o1 o2, Below W.heap.size W ((W.alloc o1).alloc o2) := fun o1 o2 => ((Below.refl _ _).alloc (Nat.le_refl _) o1).alloc (by rw [size_alloc]; omega) o2
  have hcall := fun o1 T => walk_any (fun _ _ => ⟨fun _ _ => trivial, fun _ _ => trivial⟩) (s := 0) (vst1 (W.heap.size + 1) T) (visits_deep (countV v) (W.heap.size + 1) T) v trivial (Nat.le_of_eq (Nat.zero_add _)) hv S ((W.alloc o1).alloc (.cells #[.int .i64 0] T)) r t (by have := block_new (W.alloc o1) (.cells #[.int .i64 0] T); rwa [size_alloc] at this)
    (fun g hg => ⟨Nat.lt_of_lt_of_le (hS g hg) (hb2 _ _).size, fun e => by have := hS g hg; obtain rfl : g = W.heap.size + 1 := e; omega⟩) (hh.later (hb2 _ _))
  rw [walk_deep v ⟨#[]⟩ 0 0, show max 0 (0 + (depthV v : Int)) = depthV v by omega] at hcall
  have Hb := Lib.hid hb2
  clear hh hS hb2 hv
  go_enter Tryd.func16, Tryd.ntmps16
  go_wp2_with fail
  refine (hcall _ _).mono ?_
  rintro e w1 ⟨rfl, hs1⟩
  have c0 : w1.cell? ⟨W.heap.size + 1, 0, none⟩ = some (.int .i64 (depthV v)) := by rw [blk_cell hs1.inv]; rfl
  go_wp2
  go_ret
  exact ⟨rfl, (Hb.out _ _).trans (hs1.keeps.below (fun k hk => by obtain rfl : k = W.heap.size + 1 := hk; omega) (Hb.out _ _).size)⟩
end Go.Proofs.YteocenjneoclbaaDoor.tre
namespace Go.Proofs.YteocenjneoclbaaDoor.tre
open Go.RowKit Go.Shelf

/-- An item of a row. -/
structure It where
  d : Int
  kind : Int
  int : Int
  key : ByteArray
  text : ByteArray
def cellsI (x : It) : List Value := [.int .i64 x.d, .int .i64 x.kind, .int .i64 x.int, .string x.key, .string x.text]
def flatI (l : List It) : List Value := (l.map cellsI).flatten
theorem flatI_snoc (l : List It) (x : It) : flatI (l ++ [x]) = flatI l ++ cellsI x := by simp [flatI]
theorem flatI_len (l : List It) : (flatI l).length = l.length * 5 := by
  unfold flatI
  rw [List.length_flatten, List.map_map, show (List.length ∘ cellsI) = fun _ => 5 from funext fun _ => rfl]
  induction l with
  | nil => rfl
  | cons x l ih => simp only [List.map_cons, List.sum_cons, List.length_cons]; omega
def itOf (v : V) (key : ByteArray) (d : Int) : It := ⟨d, v.kind, v.int, key, v.text⟩
def rowN (l : List It) (v : V) (key : ByteArray) (d : Int) : Bool × List It := (true, l ++ [itOf v key d])

theorem info_item : (Tryd.prog.info? 55).map (fun i => (i.zero, i.size, i.bytes)) = some (some (.agg #[.int .i64 0, .int .i64 0, .int .i64 0, .string ByteArray.empty, .string ByteArray.empty]), 5, 56) := by kernel_rfl
/-- The state: the items that stand in the slice in block B; its row lies behind that. -/
def RowInv (B : Nat) (T : TypeId) (l : List It) (W : World) : Prop :=
  ∃ sl : Sl, W.heap[B]? = some (.cells #[.slice sl.a sl.n sl.c] T (0, 0)) ∧ W.ownsRow (B + 1) 55 5 (.slice sl.a sl.n sl.c) l.length (flatI l)
def RowOwn (B : Nat) (T : TypeId) (_ : List It) (W : World) (b : Nat) : Prop :=
  b = B ∨ ∃ sl : Sl, W.heap[B]? = some (.cells #[.slice sl.a sl.n sl.c] T (0, 0)) ∧ (Value.slice sl.a sl.n sl.c).ownBlock = some b ∧ b < W.heap.size
theorem slice_one {W : World} {B : Nat} {T : TypeId} {sl sm : Sl} (h : W.heap[B]? = some (.cells #[.slice sl.a sl.n sl.c] T (0, 0))) (k : W.heap[B]? = some (.cells #[.slice sm.a sm.n sm.c] T (0, 0))) : sl = sm := by
  rw [h] at k
  obtain ⟨a, n, c⟩ := sl
  obtain ⟨a', n', c'⟩ := sm
  simpa using k
theorem vst_row (B : Nat) (T : TypeId) : Vst (RowInv B T) (RowOwn B T) :=
  ⟨fun _ w _ h hb => by
    obtain ⟨sl, h1, h2⟩ := h
    exact ⟨sl, (hb.block B (Array.getElem?_eq_some_iff.1 h1).1).trans h1, h2.kept (row := none) ⟨hb.os, hb.tape, hb.output, hb.size, fun k hk _ => hb.block k hk⟩ (Classical.em _)⟩,
   fun _ _ b h hb => by
    obtain ⟨sl, h1, h2⟩ := h
    rcases hb with rfl | ⟨_, _, _, hlt⟩
    · exact (Array.getElem?_eq_some_iff.1 h1).1
    · exact hlt,
   fun _ w w' b h hb ho => by
    obtain ⟨sl, h1, h2⟩ := h
    have h1' := (hb.block B (Array.getElem?_eq_some_iff.1 h1).1).trans h1
    rcases ho with rfl | ⟨sm, h3, h4, _⟩
    · exact .inl rfl
    · obtain rfl := slice_one h1' h3
      exact .inr ⟨sl, h1, h4, (h2.lt b h4).2⟩⟩

set_option maxRecDepth 100000 in
set_option maxHeartbeats 2000000 in
theorem visits_row (N B : Nat) (hN : N ≤ 100000) (T : TypeId) : Visits (fun _ => True) (fun l => l.length) N (RowInv B T) (RowOwn B T) 36 #[.pointer (some ⟨B, 0, none⟩)] rowN := by
  refine ⟨enters_of Tryd.func36 (by kernel_rfl) rfl, fun s v k d => by simp [rowN], fun v key d S l W r t _ hlN _ _ hi _ _ => ?_⟩
  replace hlN : l.length < N := hlN
  obtain ⟨i0, hi0, hz0, hz1, hz2⟩ := info_of info_item
  obtain ⟨sl, h1, hown⟩ := hi
  obtain ⟨sa, sn, sc⟩ := sl
  simp only at h1 hown
  have hl := (Array.getElem?_eq_some_iff.1 h1).1
  have c0 : W.cell? ⟨B, 0, none⟩ = some (.slice sa sn sc) := by rw [blk_cell h1]; rfl
  have f0 := blk_frozen h1 0
  have hownA := fun o1 o2 => (hown.alloc o1).alloc o2
  have Hnews := Lib.hid (fun (o : Obj) => World.news_of_block (w := (W.alloc o).alloc (.cells #[.int .i64 d, .int .i64 v.kind, .int .i64 v.int, .string key, .string v.text] 55)) (B := W.heap.size + 1) (by
    have := block_new (W.alloc o) (.cells #[.int .i64 d, .int .i64 v.kind, .int .i64 v.int, .string key, .string v.text] 55)
    rw [size_alloc] at this
    exact this))
  have H := Lib.hid (And.intro h1 hown)
  clear h1 hown
  go_enter Tryd.func36, Tryd.ntmps36
  go_wp2_with (at_builtin; refine wpList_append_own_at _ rfl _ _ 22 rfl (B + 1) 55 i0 _ 5 56 Tryd.underlying22 hi0 hz0 hz1 hz2 rfl (by decide) _ _ _ rfl (hownA _ _) _ 1 1 [.int .i64 d, .int .i64 v.kind, .int .i64 v.int, .string key, .string v.text] rfl rfl (Hnews.out _) (by simp [Value.oneCell']) (by unfold maxLen; omega) (by omega) (by simp; omega) ?_; intro v' w1 hown1 hgrow1 _ hat1; obtain ⟨g', cap', rfl, _, _⟩ := hown1.form (by omega); have hB1 := (hgrow1.block B (by simp; omega) (fun e => by have := (H.out.2.lt B e.symm).1; omega)).trans ((block_old (by simp; omega)).trans ((block_old hl).trans H.out.1)); have c1 : w1.cell? ⟨B, 0, none⟩ = some (.slice sa sn sc) := (by rw [blk_cell hB1]; rfl); have f1 := blk_frozen hB1 0; have l1 := (Array.getElem?_eq_some_iff.1 hB1).1)
  go_wp2
  go_ret
  have hb2 : Below W.heap.size W ((W.alloc (.cells #[.int .i64 v.kind, .int .i64 v.int, .string v.text, .slice r.a r.n r.c, .slice t.a t.n t.c] 27)).alloc (.cells #[.int .i64 d, .int .i64 v.kind, .int .i64 v.int, .string key, .string v.text] 55)) :=
    ((Below.refl _ _).alloc (Nat.le_refl _) _).alloc (by rw [size_alloc]; omega) _
  have hkeep : Keeps (RowOwn B T l W) W w1 := by
    refine (Keeps.of_below hb2).trans (Y := fun k => (Value.slice sa sn sc).ownBlock = some k) ⟨hgrow1.os, hgrow1.tape, hgrow1.output, hgrow1.size, fun k hk hne => hgrow1.block k hk (fun e => hne e.symm)⟩ (fun k hk => ?_)
    exact .inl (.inr ⟨⟨sa, sn, sc⟩, H.out.1, hk, (H.out.2.lt k hk).2⟩)
  refine ⟨rfl, ⟨⟨⟨some ⟨g', 0, none⟩, l.length + 1, cap'⟩, blk_set hB1 0 _, ?_⟩, ?_, hkeep.set (a := ⟨B, 0, none⟩) (show RowOwn B T l W B from .inl rfl) _⟩⟩
  · have := ownsRow_setCell_below hown1 (a := ⟨B, 0, none⟩) (by simp) (.slice (some ⟨g', 0, none⟩) (l.length + 1) cap')
    show World.ownsRow _ _ _ _ _ (l ++ [itOf v key d]).length (flatI (l ++ [itOf v key d]))
    rw [List.length_append, List.length_singleton, flatI_snoc]
    exact this
  · rintro b (rfl | ⟨sm, h3, h4, _⟩)
    · exact .inl (.inl rfl)
    · have e := slice_one (sl := ⟨some ⟨g', 0, none⟩, l.length + 1, cap'⟩) (blk_set hB1 0 (.slice (some ⟨g', 0, none⟩) (l.length + 1) cap')) h3
      subst e
      rcases hat1 with e | e
      · have h5 := e.symm.trans h4
        exact .inl (.inr ⟨⟨sa, sn, sc⟩, H.out.1, h5, (H.out.2.lt b h5).2⟩)
      · rw [h4] at e
        injection e with e
        right; rw [e, size_alloc, size_alloc]; omega

/-- A value's row. -/
def rowV : V → Int → ByteArray → List It := V.fold fun v a b d key => itOf v key d :: (a.flatMap (fun h => h (d + 1) ⟨#[]⟩) ++ b.flatMap fun g => g.2 (d + 1) g.1)
theorem rowV_eq (v : V) (d : Int) (key : ByteArray) : rowV v d key = itOf v key d :: (v.list.flatMap (fun x => rowV x (d + 1) ⟨#[]⟩) ++ v.fields.flatMap fun g => rowV g.2 (d + 1) g.1) := by
  have := V.fold_eq (α := Int → ByteArray → List It) (fun v a b d key => itOf v key d :: (a.flatMap (fun h => h (d + 1) ⟨#[]⟩) ++ b.flatMap fun g => g.2 (d + 1) g.1)) v
  have h2 := congrFun (congrFun this d) key
  rw [List.flatMap_map, List.flatMap_map] at h2
  exact h2
theorem walk_row : ∀ (v : V) (key : ByteArray) (d : Int) (s : List It), walkS rowN v key d s = (true, s ++ rowV v d key) := V.ind fun v ihl ihf => by
  intro key d s
  have hl : ∀ (l : List V), (∀ x ∈ l, x ∈ v.list) → ∀ s, allS (inL rowN d) s l = (true, s ++ l.flatMap fun x => rowV x (d + 1) ⟨#[]⟩) := by
    intro l
    induction l with
    | nil => intro _ s; simp [allS]
    | cons x l ih =>
      intro hm s
      unfold allS
      have hx : inL rowN d s x = (true, s ++ rowV x (d + 1) ⟨#[]⟩) := ihl x (hm x (by simp)) _ _ _
      rw [hx]
      simp only [if_true]
      rw [ih (fun y hy => hm y (by simp [hy]))]
      simp
  have hf : ∀ (l : List (ByteArray × V)), (∀ x ∈ l, x ∈ v.fields) → ∀ s, allS (inF rowN d) s l = (true, s ++ l.flatMap fun g => rowV g.2 (d + 1) g.1) := by
    intro l
    induction l with
    | nil => intro _ s; simp [allS]
    | cons x l ih =>
      intro hm s
      unfold allS
      have hx : inF rowN d s x = (true, s ++ rowV x.2 (d + 1) x.1) := ihf x (hm x (by simp)) _ _ _
      rw [hx]
      simp only [if_true]
      rw [ih (fun y hy => hm y (by simp [hy]))]
      simp
  rw [walkS_eq, rowV_eq]
  have e0 : rowN s v key d = (true, s ++ [itOf v key d]) := rfl
  rw [e0]
  simp only [if_true]
  rw [hl v.list (fun _ h => h)]
  simp only [if_true]
  rw [hf v.fields (fun _ h => h)]
  simp
theorem rowV_len : ∀ (v : V) (d : Int) (key : ByteArray), (rowV v d key).length = countV v := V.ind fun v ihl ihf => by
  intro d key
  rw [rowV_eq, countV_eq]
  have hl : ∀ (l : List V), (∀ x ∈ l, x ∈ v.list) → (l.flatMap fun x => rowV x (d + 1) ⟨#[]⟩).length = sumN (l.map countV) := by
    intro l
    induction l with
    | nil => intro _; rfl
    | cons x l ih => intro hm; rw [List.flatMap_cons, List.length_append, ihl x (hm x (by simp)), ih (fun y hy => hm y (by simp [hy]))]; rfl
  have hf : ∀ (l : List (ByteArray × V)), (∀ x ∈ l, x ∈ v.fields) → (l.flatMap fun g => rowV g.2 (d + 1) g.1).length = sumN (l.map fun g => countV g.2) := by
    intro l
    induction l with
    | nil => intro _; rfl
    | cons x l ih => intro hm; rw [List.flatMap_cons, List.length_append, ihf x (hm x (by simp)), ih (fun y hy => hm y (by simp [hy]))]; rfl
  rw [List.length_cons, List.length_append, hl _ (fun _ h => h), hf _ (fun _ h => h)]

theorem own_mono {w : World} {B B' : Nat} {e : TypeId} {size : Nat} {v : Value} {n : Nat} {xs : List Value} (h : w.ownsRow B e size v n xs) (hB : B' ≤ B) : w.ownsRow B' e size v n xs := by
  obtain ⟨h1, h2⟩ := h
  refine ⟨h1, ?_⟩
  rcases h2 with h2 | ⟨g, cap, cur, hv, hg, r⟩
  · exact .inl h2
  · exact .inr ⟨g, cap, cur, hv, Nat.le_trans hB hg, r⟩
/-- Row. -/
theorem Row_any (v : V) (hc : countV v ≤ 100000) (hv : depthV v < 4611686018427387904) (S : Nat → Prop) (W : World) (r t : Sl) (hS : ∀ g, S g → g < W.heap.size) (hh : HV S W v r t) :
    Calls Tryd.prog 9 #[.agg #[.int .i64 v.kind, .int .i64 v.int, .string v.text, .slice r.a r.n r.c, .slice t.a t.n t.c]] W fun e w' => ∃ sl : Sl, e = .returned (.slice sl.a sl.n sl.c) ∧
      w'.ownsRow W.heap.size 55 5 (.slice sl.a sl.n sl.c) (rowV v 0 ⟨#[]⟩).length (flatI (rowV v 0 ⟨#[]⟩)) ∧ Below W.heap.size W w' := by
  have hb2 : ∀ o1 o2, Below W.heap.size W ((W.alloc o1).alloc o2) := fun o1 o2 => ((Below.refl _ _).alloc (Nat.le_refl _) o1).alloc (by rw [size_alloc]; omega) o2
  have hcell : ∀ o1 T, ((W.alloc o1).alloc (.cells #[.slice none 0 0] T)).heap[W.heap.size + 1]? = some (.cells #[.slice none 0 0] T (0, 0)) := fun o1 T => by have := block_new (W.alloc o1) (.cells #[.slice none 0 0] T); rwa [size_alloc] at this
  have hcall := fun o1 T => walk_any (fun _ _ => ⟨fun _ _ => trivial, fun _ _ => trivial⟩) (s := ([] : List It)) (vst_row (W.heap.size + 1) T) (visits_row (countV v) (W.heap.size + 1) hc T) v trivial (Nat.le_of_eq (Nat.zero_add _)) hv S ((W.alloc o1).alloc (.cells #[.slice none 0 0] T)) r t
    ⟨⟨none, 0, 0⟩, hcell o1 T, World.ownsRow_nil _ _ _ _⟩
    (fun g hg => ⟨Nat.lt_of_lt_of_le (hS g hg) (hb2 _ _).size, fun e => by
      have := hS g hg
      rcases e with e | ⟨sl, h1, h2, _⟩
      · omega
      · obtain rfl := slice_one (sl := ⟨none, 0, 0⟩) (hcell o1 T) h1
        simp [Value.ownBlock] at h2⟩) (hh.later (hb2 _ _))
  rw [walk_row v ⟨#[]⟩ 0 []] at hcall
  simp only [List.nil_append] at hcall
  have Hb := Lib.hid (And.intro hb2 hcell)
  clear hh hS hb2 hc hv hcell
  go_enter Tryd.func9, Tryd.ntmps9
  go_wp2_with fail
  refine (hcall _ _).mono ?_
  rintro e w1 ⟨rfl, hs1⟩
  obtain ⟨sl, h1, h2⟩ := hs1.inv
  have c0 : w1.cell? ⟨W.heap.size + 1, 0, none⟩ = some (.slice sl.a sl.n sl.c) := by rw [blk_cell h1]; rfl
  have H2 := Lib.hid (And.intro hs1 h2)
  clear hs1 h1 h2 hcall
  go_wp2
  go_ret
  refine ⟨sl, rfl, own_mono H2.out.2 (by omega), (Hb.out.1 _ _).trans (H2.out.1.keeps.below (fun k hk => ?_) (Hb.out.1 _ _).size)⟩
  rcases hk with rfl | ⟨sm, h3, h4, _⟩
  · omega
  · obtain rfl := slice_one (sl := ⟨none, 0, 0⟩) (Hb.out.2 _ _) h3
    simp [Value.ownBlock] at h4
end Go.Proofs.YteocenjneoclbaaDoor.tre
namespace Go.Proofs.YteocenjneoclbaaDoor.tre
open Go.RowKit Go.Shelf

def leafV (x : It) : V := .mk x.kind x.int x.text [] []
def addL (m x : V) : V := .mk m.kind m.int m.text (m.list ++ [x]) m.fields
def addF (m : V) (k : ByteArray) (x : V) : V := .mk m.kind m.int m.text m.list (m.fields ++ [(k, x)])
/-- The document's made, from a state on: the value so far, and how many items it has. -/
def loopV (l : List It) (d : Int) (m : V) (N : Nat) : Option (V × Nat) :=
  if h : 0 < N ∧ N < l.length then
    if d < (l[N]'h.2).d then
      if (l[N]'h.2).d = d + 1 then
        match loopV (l.drop N) (d + 1) (leafV (l[N]'h.2)) 1 with
        | none => none
        | some (x, k) =>
          if k = 0 then none
          else if m.kind = 4 then
            if (l[N]'h.2).key.toList.isEmpty = true then loopV l d (addL m x) (N + k) else none
          else if m.kind = 5 then loopV l d (addF m (l[N]'h.2).key x) (N + k) else none
      else none
    else some (m, N)
  else some (m, N)
termination_by (l.length, l.length - N)
decreasing_by
  · apply Prod.Lex.left; simp; omega
  · apply Prod.Lex.right; omega
  · apply Prod.Lex.right; omega
def madeV (l : List It) (d : Int) : Option (V × Nat) :=
  match l with
  | [] => none
  | x :: _ => if x.d = d then loopV l d (leafV x) 1 else none
theorem loopV_pos : ∀ (n : Nat) (l : List It) (d : Int) (m : V) (N : Nat), l.length - N ≤ n → 0 < N → ∀ x k, loopV l d m N = some (x, k) → N ≤ k ∧ x.kind = m.kind ∧ x.int = m.int ∧ x.text = m.text := by
  intro n
  induction n with
  | zero =>
    intro l d m N hn h0 x k h
    rw [loopV, dif_neg (by omega)] at h
    simp only [Option.some.injEq, Prod.mk.injEq] at h
    obtain ⟨rfl, rfl⟩ := h
    exact ⟨Nat.le_refl _, rfl, rfl, rfl⟩
  | succ n ih =>
    intro l d m N hn h0 x k h
    rw [loopV] at h
    split at h
    · split at h
      · split at h
        · split at h
          · cases h
          · rename_i y j _
            split at h
            · cases h
            · split at h
              · split at h
                · have := ih l d (addL m y) (N + j) (by omega) (by omega) x k h
                  exact ⟨by omega, this.2⟩
                · cases h
              · split at h
                · have := ih l d (addF m _ y) (N + j) (by omega) (by omega) x k h
                  exact ⟨by omega, this.2⟩
                · cases h
        · cases h
      · simp only [Option.some.injEq, Prod.mk.injEq] at h
        obtain ⟨rfl, rfl⟩ := h
        exact ⟨Nat.le_refl _, rfl, rfl, rfl⟩
    · simp only [Option.some.injEq, Prod.mk.injEq] at h
      obtain ⟨rfl, rfl⟩ := h
      exact ⟨Nat.le_refl _, rfl, rfl, rfl⟩

/-- Items lie in a block, from one place on. -/
def ItAt (w : World) (bl o : Nat) (l : List It) : Prop := ∀ i (h : i < l.length), ∀ j u, (cellsI l[i])[j]? = some u → w.cell? ⟨bl, o * 5 + i * 5 + j, none⟩ = some u
theorem ItAt.drop {w : World} {bl o : Nat} {l : List It} (h : ItAt w bl o l) (N : Nat) : ItAt w bl (o + N) (l.drop N) := by
  intro i hi j u hu
  rw [List.getElem_drop] at hu
  rw [show (o + N) * 5 + i * 5 + j = o * 5 + (N + i) * 5 + j by omega]
  exact h (N + i) (by simp at hi; omega) j u hu
theorem ItAt.later {w w' : World} {bl o : Nat} {l : List It} (h : ItAt w bl o l) (hb : Below w.heap.size w w') (hl : bl < w.heap.size) : ItAt w' bl o l :=
  fun i hi j u hu => (hb.cell (by exact hl)).trans (h i hi j u hu)
theorem ItAt.five {w : World} {bl o : Nat} {l : List It} (h : ItAt w bl o l) (i : Nat) (hi : i < l.length) :
    w.cell? ⟨bl, o * 5 + i * 5, none⟩ = some (.int .i64 l[i].d) ∧ w.cell? ⟨bl, o * 5 + i * 5 + 1, none⟩ = some (.int .i64 l[i].kind) ∧ w.cell? ⟨bl, o * 5 + i * 5 + 2, none⟩ = some (.int .i64 l[i].int) ∧
    w.cell? ⟨bl, o * 5 + i * 5 + 3, none⟩ = some (.string l[i].key) ∧ w.cell? ⟨bl, o * 5 + i * 5 + 4, none⟩ = some (.string l[i].text) :=
  ⟨h i hi 0 _ rfl, h i hi 1 _ rfl, h i hi 2 _ rfl, h i hi 3 _ rfl, h i hi 4 _ rfl⟩
end Go.Proofs.YteocenjneoclbaaDoor.tre
