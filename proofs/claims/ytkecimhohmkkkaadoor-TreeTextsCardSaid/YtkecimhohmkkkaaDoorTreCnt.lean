/- Layer 4: Count and Depth. -/
import Derived.Test.YtkecimhohmkkkaaDoorTreWalk
namespace Go.Proofs.YtkecimhohmkkkaaDoor.tre
open Go.RowKit Go.Shelf

/-- The state is a number in a cell of a block of its own. -/
def Cell1 (B : Nat) (T : TypeId) (s : Int) (W : World) : Prop := W.heap[B]? = some (.cells #[.int .i64 s] T (0, 0))
def Own1 (B : Nat) (_ : Int) (_ : World) (b : Nat) : Prop := b = B
theorem vst1 (B : Nat) (T : TypeId) : Vst (Cell1 B T) (Own1 B) :=
  ⟨fun _ w _ h hb => (hb.block B (Array.getElem?_eq_some_iff.1 h).1).trans h, fun _ _ b h hb => by obtain rfl : b = B := hb; exact (Array.getElem?_eq_some_iff.1 h).1, fun _ _ _ _ _ _ h => h⟩
theorem blk_cell {w : World} {g : Nat} {cs : Array Value} {t : TypeId} (h : w.heap[g]? = some (.cells cs t (0, 0))) (i : Nat) : w.cell? ⟨g, i, none⟩ = cs[i]? := cell_of_row w g i cs t (0, 0) h
theorem blk_frozen {w : World} {g : Nat} {cs : Array Value} {t : TypeId} (h : w.heap[g]? = some (.cells cs t (0, 0))) (i : Nat) : w.frozen? ⟨g, i, none⟩ = false := by
  simp [World.frozen?, h]
theorem blk_set {w : World} {g : Nat} {cs : Array Value} {t : TypeId} (h : w.heap[g]? = some (.cells cs t (0, 0))) (i : Nat) (u : Value) : (w.setCell ⟨g, i, none⟩ u).heap[g]? = some (.cells (cs.setIfInBounds i u) t (0, 0)) := by
  simp [World.setCell, Array.getElem?_modify, h]
theorem blk_far {w : World} {a : Addr} {u : Value} {k : Nat} (h : k ≠ a.block) : (w.setCell a u).heap[k]? = w.heap[k]? := Below.heap_setCell _ _ _ _ h
theorem Keeps.set {X : Nat → Prop} {w w' : World} (h : Keeps X w w') {a : Addr} (ha : X a.block) (u : Value) : Keeps X w (w'.setCell a u) :=
  ⟨h.os, h.tape, h.output, by simp [World.setCell]; exact h.size, fun k hk hx => (blk_far (fun e => hx (by rw [e]; exact ha))).trans (h.block k hk hx)⟩
theorem cell1_step {B : Nat} {T : TypeId} {s : Int} {W : World} (h : Cell1 B T s W) (s' : Int) (o : Obj) : Step (Cell1 B T) (Own1 B) s W s' ((W.setCell ⟨B, 0, none⟩ (.int .i64 s')).alloc o) := by
  have h2 : (W.setCell ⟨B, 0, none⟩ (.int .i64 s')).heap[B]? = some (.cells #[.int .i64 s'] T (0, 0)) := blk_set h 0 _
  have hk : Keeps (Own1 B s W) W (W.setCell ⟨B, 0, none⟩ (.int .i64 s')) := (Keeps.of_below (X := Own1 B s W) (Below.refl _ _)).set (a := ⟨B, 0, none⟩) (show Own1 B s W B from rfl) _
  have hb := (Below.refl (W.setCell ⟨B, 0, none⟩ (.int .i64 s')).heap.size _).alloc (Nat.le_refl _) o
  exact ⟨(hb.block B (Array.getElem?_eq_some_iff.1 h2).1).trans h2, fun _ hb => .inl hb, hk.trans (Keeps.of_below (X := fun _ => False) hb) (fun _ e => e.elim)⟩

/-- A visit more. -/
def incN (s : Int) (_ : V) (_ : ByteArray) (_ : Int) : Bool × Int := (true, wrap64 (s + 1))
def deepN (s : Int) (_ : V) (_ : ByteArray) (d : Int) : Bool × Int := (true, max s (d + 1))
theorem visits_inc (N B : Nat) (T : TypeId) : Visits (fun _ => True) (fun _ => 0) N (Cell1 B T) (Own1 B) 54 #[.pointer (some ⟨B, 0, none⟩)] incN := by
  refine ⟨enters_of Tryd.func54 (by kernel_rfl) rfl, fun _ _ _ _ => Nat.zero_le _, fun v key d S s W r t _ _ _ _ hi _ _ => ?_⟩
  have hl := (Array.getElem?_eq_some_iff.1 hi).1
  have c0 : W.cell? ⟨B, 0, none⟩ = some (.int .i64 s) := by rw [blk_cell hi]; rfl
  have f0 := blk_frozen hi 0
  have hst := cell1_step hi (wrap64 (s + 1))
  have Hst := Lib.hid hst
  clear hst hi
  go_enter Tryd.func54, Tryd.ntmps54
  go_wp2
  go_ret
  exact ⟨rfl, Hst.out _⟩
theorem visits_deep (N B : Nat) (T : TypeId) : Visits (fun _ => True) (fun _ => 0) N (Cell1 B T) (Own1 B) 53 #[.pointer (some ⟨B, 0, none⟩)] deepN := by
  refine ⟨enters_of Tryd.func53 (by kernel_rfl) rfl, fun _ _ _ _ => Nat.zero_le _, fun v key d S s W r t _ _ h0 h1 hi _ _ => ?_⟩
  have hl := (Array.getElem?_eq_some_iff.1 hi).1
  have c0 : W.cell? ⟨B, 0, none⟩ = some (.int .i64 s) := by rw [blk_cell hi]; rfl
  have f0 := blk_frozen hi 0
  have w1 : IntKind.i64.wrap (d + 1) = d + 1 := IntWalk.i64_in _ (by omega)
  have hst := cell1_step hi (max s (d + 1))
  have Hst := Lib.hid hst
  clear hst hi
  go_enter Tryd.func53, Tryd.ntmps53
  go_wp2
  go_ret
  exact ⟨rfl, Hst.out _⟩

theorem wr (x : Int) (h0 : 0 ≤ x) (h1 : x < 9223372036854775808) : wrap64 x = x :=
  IntWalk.wrap64_in x (by omega)
theorem walk_inc : ∀ (v : V) (key : ByteArray) (d s : Int), 0 ≤ s → s + countV v < 9223372036854775808 → walkS incN v key d s = (true, s + countV v) := V.ind fun v ihl ihf => by
  intro key d s h0 h1
  have hl : ∀ (l : List V), (∀ x ∈ l, x ∈ v.list) → ∀ s : Int, 0 ≤ s → s + sumN (l.map countV) < 9223372036854775808 → allS (inL incN d) s l = (true, s + sumN (l.map countV)) := by
    intro l
    induction l with
    | nil => intro _ s _ _; simp [allS, sumN]
    | cons x l ih =>
      intro hm s h0 h1
      simp only [List.map_cons, sumN] at h1 ⊢
      unfold allS
      have hx : inL incN d s x = (true, s + countV x) := ihl x (hm x (by simp)) _ _ _ h0 (by omega)
      rw [hx]
      simp only [if_true]
      rw [ih (fun y hy => hm y (by simp [hy])) _ (by omega) (by omega)]
      congr 1; omega
  have hf : ∀ (l : List (ByteArray × V)), (∀ x ∈ l, x ∈ v.fields) → ∀ s : Int, 0 ≤ s → s + sumN (l.map fun g => countV g.2) < 9223372036854775808 → allS (inF incN d) s l = (true, s + sumN (l.map fun g => countV g.2)) := by
    intro l
    induction l with
    | nil => intro _ s _ _; simp [allS, sumN]
    | cons x l ih =>
      intro hm s h0 h1
      simp only [List.map_cons, sumN] at h1 ⊢
      unfold allS
      have hx : inF incN d s x = (true, s + countV x.2) := ihf x (hm x (by simp)) _ _ _ h0 (by omega)
      rw [hx]
      simp only [if_true]
      rw [ih (fun y hy => hm y (by simp [hy])) _ (by omega) (by omega)]
      congr 1; omega
  have hc := countV_eq v
  rw [walkS_eq]
  unfold incN
  simp only [if_true]
  rw [wr _ (by omega) (by omega)]
  have e1 := hl v.list (fun _ h => h) (s + 1) (by omega) (by omega)
  have e2 := hf v.fields (fun _ h => h) (s + 1 + sumN (v.list.map countV)) (by omega) (by omega)
  unfold incN at e1 e2
  rw [e1]
  simp only [if_true]
  rw [e2]
  congr 1; omega
theorem walk_deep : ∀ (v : V) (key : ByteArray) (d s : Int), walkS deepN v key d s = (true, max s (d + depthV v)) := V.ind fun v ihl ihf => by
  intro key d s
  have hl : ∀ (l : List V), (∀ x ∈ l, x ∈ v.list) → ∀ s : Int, d + 1 ≤ s → allS (inL deepN d) s l = (true, max s (d + 1 + maxN (l.map depthV))) := by
    intro l
    induction l with
    | nil => intro _ s h; simp [allS, maxN]; omega
    | cons x l ih =>
      intro hm s h
      simp only [List.map_cons, maxN]
      unfold allS
      have hx : inL deepN d s x = (true, max s (d + 1 + depthV x)) := ihl x (hm x (by simp)) _ _ _
      rw [hx]
      simp only [if_true]
      rw [ih (fun y hy => hm y (by simp [hy])) _ (by omega)]
      congr 1; omega
  have hf : ∀ (l : List (ByteArray × V)), (∀ x ∈ l, x ∈ v.fields) → ∀ s : Int, d + 1 ≤ s → allS (inF deepN d) s l = (true, max s (d + 1 + maxN (l.map fun g => depthV g.2))) := by
    intro l
    induction l with
    | nil => intro _ s h; simp [allS, maxN]; omega
    | cons x l ih =>
      intro hm s h
      simp only [List.map_cons, maxN]
      unfold allS
      have hx : inF deepN d s x = (true, max s (d + 1 + depthV x.2)) := ihf x (hm x (by simp)) _ _ _
      rw [hx]
      simp only [if_true]
      rw [ih (fun y hy => hm y (by simp [hy])) _ (by omega)]
      congr 1; omega
  have hc := depthV_eq v
  rw [walkS_eq]
  unfold deepN
  simp only [if_true]
  have e1 := hl v.list (fun _ h => h) (max s (d + 1)) (by omega)
  have e2 := hf v.fields (fun _ h => h) (max (max s (d + 1)) (d + 1 + maxN (v.list.map depthV))) (by omega)
  unfold deepN at e1 e2
  rw [e1]
  simp only [if_true]
  rw [e2]
  congr 1
  rw [hc]
  omega

/-- Count. -/
theorem Count_any (v : V) (hv : depthV v < 4611686018427387904) (hc : countV v < 9223372036854775808) (S : Nat → Prop) (W : World) (r t : Sl) (hS : ∀ g, S g → g < W.heap.size) (hh : HV S W v r t) :
    Calls Tryd.prog 25 #[.agg #[.int .i64 v.kind, .int .i64 v.int, .string v.text, .slice r.a r.n r.c, .slice t.a t.n t.c]] W fun e w' => e = .returned (.int .i64 (countV v)) ∧ Below W.heap.size W w' := by
  have hb2 : ∀ o1 o2, Below W.heap.size W ((W.alloc o1).alloc o2) := fun o1 o2 => ((Below.refl _ _).alloc (Nat.le_refl _) o1).alloc (by rw [size_alloc]; omega) o2
  have hcall := fun o1 T => walk_any (fun _ _ => ⟨fun _ _ => trivial, fun _ _ => trivial⟩) (s := 0) (vst1 (W.heap.size + 1) T) (visits_inc (countV v) (W.heap.size + 1) T) v trivial (Nat.le_of_eq (Nat.zero_add _)) hv S ((W.alloc o1).alloc (.cells #[.int .i64 0] T)) r t (by have := block_new (W.alloc o1) (.cells #[.int .i64 0] T); rwa [size_alloc] at this)
    (fun g hg => ⟨Nat.lt_of_lt_of_le (hS g hg) (hb2 _ _).size, fun e => by have := hS g hg; obtain rfl : g = W.heap.size + 1 := e; omega⟩) (hh.later (hb2 _ _))
  rw [walk_inc v ⟨#[]⟩ 0 0 (by omega) (by omega)] at hcall
  simp only [Int.zero_add] at hcall
  have Hb := Lib.hid hb2
  clear hh hS hb2 hc hv
  go_enter Tryd.func25, Tryd.ntmps25
  go_wp2_with fail
  refine (hcall _ _).mono ?_
  rintro e w1 ⟨rfl, hs1⟩
  have c0 : w1.cell? ⟨W.heap.size + 1, 0, none⟩ = some (.int .i64 (countV v)) := by rw [blk_cell hs1.inv]; rfl
  go_wp2
  go_ret
  exact ⟨rfl, (Hb.out _ _).trans (hs1.keeps.below (fun k hk => by obtain rfl : k = W.heap.size + 1 := hk; omega) (Hb.out _ _).size)⟩

/-- Depth. -/
theorem Depth_any (v : V) (hv : depthV v < 4611686018427387904) (S : Nat → Prop) (W : World) (r t : Sl) (hS : ∀ g, S g → g < W.heap.size) (hh : HV S W v r t) :
    Calls Tryd.prog 23 #[.agg #[.int .i64 v.kind, .int .i64 v.int, .string v.text, .slice r.a r.n r.c, .slice t.a t.n t.c]] W fun e w' => e = .returned (.int .i64 (depthV v)) ∧ Below W.heap.size W w' := by
  have hb2 : ∀ o1 o2, Below W.heap.size W ((W.alloc o1).alloc o2) := fun o1 o2 => ((Below.refl _ _).alloc (Nat.le_refl _) o1).alloc (by rw [size_alloc]; omega) o2
  have hcall := fun o1 T => walk_any (fun _ _ => ⟨fun _ _ => trivial, fun _ _ => trivial⟩) (s := 0) (vst1 (W.heap.size + 1) T) (visits_deep (countV v) (W.heap.size + 1) T) v trivial (Nat.le_of_eq (Nat.zero_add _)) hv S ((W.alloc o1).alloc (.cells #[.int .i64 0] T)) r t (by have := block_new (W.alloc o1) (.cells #[.int .i64 0] T); rwa [size_alloc] at this)
    (fun g hg => ⟨Nat.lt_of_lt_of_le (hS g hg) (hb2 _ _).size, fun e => by have := hS g hg; obtain rfl : g = W.heap.size + 1 := e; omega⟩) (hh.later (hb2 _ _))
  rw [walk_deep v ⟨#[]⟩ 0 0, show max 0 (0 + (depthV v : Int)) = depthV v by omega] at hcall
  have Hb := Lib.hid hb2
  clear hh hS hb2 hv
  go_enter Tryd.func23, Tryd.ntmps23
  go_wp2_with fail
  refine (hcall _ _).mono ?_
  rintro e w1 ⟨rfl, hs1⟩
  have c0 : w1.cell? ⟨W.heap.size + 1, 0, none⟩ = some (.int .i64 (depthV v)) := by rw [blk_cell hs1.inv]; rfl
  go_wp2
  go_ret
  exact ⟨rfl, (Hb.out _ _).trans (hs1.keeps.below (fun k hk => by obtain rfl : k = W.heap.size + 1 := hk; omega) (Hb.out _ _).size)⟩
end Go.Proofs.YtkecimhohmkkkaaDoor.tre
