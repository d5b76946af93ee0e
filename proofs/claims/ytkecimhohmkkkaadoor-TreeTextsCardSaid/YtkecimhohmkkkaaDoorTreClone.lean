/- Layer 4: the library's Clone, at values and at fields: the same cells in a block of its own. -/
import Derived.Test.YtkecimhohmkkkaaDoorTreWalk
namespace Go.Proofs.YtkecimhohmkkkaaDoor.tre
open Go.RowKit Go.Shelf

theorem info_of {e : TypeId} {z : Value} {n b : Nat} (h : (Tryd.prog.info? e).map (fun i => (i.zero, i.size, i.bytes)) = some (some z, n, b)) : ∃ i, Tryd.prog.info? e = some i ∧ i.zero = some z ∧ i.size = n ∧ i.bytes = b := by
  cases hi : Tryd.prog.info? e with
  | none => rw [hi] at h; cases h
  | some i =>
    rw [hi] at h
    simp only [Option.map_some, Option.some.injEq, Prod.mk.injEq] at h
    exact ⟨i, rfl, h.1, h.2.1, h.2.2⟩
def zeroV : Value := .agg #[.int .i64 0, .int .i64 0, .string ByteArray.empty, .slice none 0 0, .slice none 0 0]
def zeroF : Value := .agg #[.string ByteArray.empty, .int .i64 0, .int .i64 0, .string ByteArray.empty, .slice none 0 0, .slice none 0 0]
theorem info_V : (Tryd.prog.info? 28).map (fun i => (i.zero, i.size, i.bytes)) = some (some zeroV, 5, 80) := by kernel_rfl
theorem info_F : (Tryd.prog.info? 36).map (fun i => (i.zero, i.size, i.bytes)) = some (some zeroF, 6, 96) := by kernel_rfl
/-- All cells are single ones. -/
def OneC (xss : List (List Value)) : Prop := ∀ u ∈ xss.flatten, u.oneCell' = true
theorem lies_one {S : Nat → Prop} {w : World} {v : V} {cs : List Value} (h : Lies S w v cs) : ∀ u ∈ cs, u.oneCell' = true := by
  obtain ⟨p, q, rfl, _⟩ := lies_iff.1 h
  intro u hu
  simp only [cellsV, List.mem_cons, List.not_mem_nil, or_false] at hu
  rcases hu with rfl | rfl | rfl | rfl | rfl <;> rfl
theorem oneV {S : Nat → Prop} {w : World} {l : List V} {xss : List (List Value)} (hl : xss.length = l.length) (h : AllZ (Lies S w) l xss) : OneC xss := by
  intro u hu
  obtain ⟨xs, hx, hu⟩ := List.mem_flatten.1 hu
  obtain ⟨i, hi⟩ := List.getElem?_of_mem hx
  have hil := (List.getElem?_eq_some_iff.1 hi).1
  exact lies_one (h i (l[i]'(by omega)) xs (List.getElem?_eq_getElem _) hi) u hu
theorem oneF {S : Nat → Prop} {w : World} {l : List (ByteArray × V)} {xss : List (List Value)} (hl : xss.length = l.length) (h : AllZ (fun (g : ByteArray × V) xs => ∃ ys, xs = .string g.1 :: ys ∧ Lies S w g.2 ys) l xss) : OneC xss := by
  intro u hu
  obtain ⟨xs, hx, hu⟩ := List.mem_flatten.1 hu
  obtain ⟨i, hi⟩ := List.getElem?_of_mem hx
  have hil := (List.getElem?_eq_some_iff.1 hi).1
  obtain ⟨ys, rfl, h2⟩ := h i (l[i]'(by omega)) xs (List.getElem?_eq_getElem _) hi
  rcases List.mem_cons.1 hu with rfl | hu
  · rfl
  · exact lies_one h2 u hu
theorem own_nonnil {w : World} {B : Nat} {e : TypeId} {size : Nat} {v : Value} {n : Nat} {xs : List Value} (h : w.ownsRow B e size v n xs) : ∃ a c, v = .slice a n c := by
  rcases h.2 with ⟨h1, h2⟩ | ⟨g, cap, cur, hv, _⟩
  · subst h2; exact ⟨none, 0, h1⟩
  · exact ⟨_, _, hv⟩

set_option maxRecDepth 100000 in
set_option maxHeartbeats 1000000 in
theorem cloneV_any (n : Nat) (hn : n ≤ 100000) (p : Sl) (xss : List (List Value)) (S : Nat → Prop) (w : World) (hrow : RowC S w 28 5 n p xss) (hone : OneC xss) :
    Calls Tryd.prog 71 #[.slice p.a p.n p.c] w fun e w' => ∃ q : Sl, e = .returned (.slice q.a q.n q.c) ∧ RowC (fun g => w.heap.size ≤ g) w' 28 5 n q xss ∧ Below w.heap.size w w' := by
  obtain ⟨i0, hi0, hz0, hz1, hz2⟩ := info_of info_V
  obtain ⟨h1, h2, h3, h4⟩ := hrow
  have hf := (show RowC S w 28 5 n p xss from ⟨h1, h2, h3, h4⟩).form.1
  obtain ⟨pa, pn, pc⟩ := p
  simp only at hf
  subst hf
  rcases h3.2 with ⟨hv, h0⟩ | ⟨g, cap, cur, hv, _, hg, _, _, _⟩
  · simp only [Sl.val, Value.slice.injEq] at hv
    obtain ⟨rfl, rfl, rfl⟩ := hv
    have hnil := fun w => Lib.run_eql_slice_nil (P := Tryd.prog) w 25 28 none 0 0 0 0 Tryd.underlying25
    go_enter Tryd.func71, Tryd.ntmps71
    go_wp2
    go_ret
    exact ⟨⟨none, 0, 0⟩, rfl, ⟨h1, h2, ⟨h3.1, .inl ⟨rfl, rfl⟩⟩, fun g h => by simp [Sl.val, Value.ownBlock] at h⟩, Below.refl _ _⟩
  · simp only [Sl.val, Value.slice.injEq] at hv
    obtain ⟨rfl, _, rfl⟩ := hv
    have Hn := Lib.hid (fun o => (h3.alloc o).cells (g := g) rfl)
    have Hl := Lib.hid (And.intro h1 (And.intro h2 h3.1))
    clear h1 h2 h3 h4 hg
    have hnil := fun w => Lib.run_eql_slice_nil (P := Tryd.prog) w 25 28 (some ⟨g, 0, none⟩) pn pc 0 0 Tryd.underlying25
    go_enter Tryd.func71, Tryd.ntmps71
    go_wp2_with (at_builtin; refine wpList_append_own_at _ rfl _ _ 25 rfl w.heap.size 28 i0 _ 5 80 Tryd.underlying25 hi0 hz0 hz1 hz2 rfl (by decide) _ 0 [] rfl (World.ownsRow_lit w #[] 0 (Nat.le_refl _) (by unfold maxLen; omega) rfl) _ pn pc xss.flatten rfl Hl.out.2.2 (Hn.out _) hone (by unfold maxLen; omega) (by omega) (by simp) ?_; intro v' w1 hown1 hgrow1 _ _; simp only [Nat.zero_add, List.nil_append] at hown1; obtain ⟨a', c', rfl⟩ := own_nonnil hown1)
    go_ret
    refine ⟨⟨a', pn, c'⟩, rfl, ⟨Hl.out.1, Hl.out.2.1, ?_, fun k hk => (hown1.lt k hk).1⟩, ?_⟩
    · rcases hown1.2 with h | ⟨g', cap', cur', hv, hb, r⟩
      · exact ⟨hown1.1, .inl h⟩
      · exact ⟨hown1.1, .inr ⟨g', cap', cur', hv, Nat.zero_le _, r⟩⟩
    · exact ((Below.refl _ _).alloc (Nat.le_refl _) _).grown hgrow1 (by simp) (fun k hk => by cases hk; exact Nat.le_refl _)

set_option maxRecDepth 100000 in
set_option maxHeartbeats 1000000 in
theorem cloneF_any (n : Nat) (hn : n ≤ 100000) (p : Sl) (xss : List (List Value)) (S : Nat → Prop) (w : World) (hrow : RowC S w 36 6 n p xss) (hone : OneC xss) :
    Calls Tryd.prog 72 #[.slice p.a p.n p.c] w fun e w' => ∃ q : Sl, e = .returned (.slice q.a q.n q.c) ∧ RowC (fun g => w.heap.size ≤ g) w' 36 6 n q xss ∧ Below w.heap.size w w' := by
  obtain ⟨i0, hi0, hz0, hz1, hz2⟩ := info_of info_F
  obtain ⟨h1, h2, h3, h4⟩ := hrow
  have hf := (show RowC S w 36 6 n p xss from ⟨h1, h2, h3, h4⟩).form.1
  obtain ⟨pa, pn, pc⟩ := p
  simp only at hf
  subst hf
  rcases h3.2 with ⟨hv, h0⟩ | ⟨g, cap, cur, hv, _, hg, _, _, _⟩
  · simp only [Sl.val, Value.slice.injEq] at hv
    obtain ⟨rfl, rfl, rfl⟩ := hv
    have hnil := fun w => Lib.run_eql_slice_nil (P := Tryd.prog) w 26 36 none 0 0 0 0 Tryd.underlying26
    go_enter Tryd.func72, Tryd.ntmps72
    go_wp2
    go_ret
    exact ⟨⟨none, 0, 0⟩, rfl, ⟨h1, h2, ⟨h3.1, .inl ⟨rfl, rfl⟩⟩, fun g h => by simp [Sl.val, Value.ownBlock] at h⟩, Below.refl _ _⟩
  · simp only [Sl.val, Value.slice.injEq] at hv
    obtain ⟨rfl, _, rfl⟩ := hv
    have Hn := Lib.hid (fun o => (h3.alloc o).cells (g := g) rfl)
    have Hl := Lib.hid (And.intro h1 (And.intro h2 h3.1))
    clear h1 h2 h3 h4 hg
    have hnil := fun w => Lib.run_eql_slice_nil (P := Tryd.prog) w 26 36 (some ⟨g, 0, none⟩) pn pc 0 0 Tryd.underlying26
    go_enter Tryd.func72, Tryd.ntmps72
    go_wp2_with (at_builtin; refine wpList_append_own_at _ rfl _ _ 26 rfl w.heap.size 36 i0 _ 6 96 Tryd.underlying26 hi0 hz0 hz1 hz2 rfl (by decide) _ 0 [] rfl (World.ownsRow_lit w #[] 0 (Nat.le_refl _) (by unfold maxLen; omega) rfl) _ pn pc xss.flatten rfl Hl.out.2.2 (Hn.out _) hone (by unfold maxLen; omega) (by omega) (by simp) ?_; intro v' w1 hown1 hgrow1 _ _; simp only [Nat.zero_add, List.nil_append] at hown1; obtain ⟨a', c', rfl⟩ := own_nonnil hown1)
    go_ret
    refine ⟨⟨a', pn, c'⟩, rfl, ⟨Hl.out.1, Hl.out.2.1, ?_, fun k hk => (hown1.lt k hk).1⟩, ?_⟩
    · rcases hown1.2 with h | ⟨g', cap', cur', hv, hb, r⟩
      · exact ⟨hown1.1, .inl h⟩
      · exact ⟨hown1.1, .inr ⟨g', cap', cur', hv, Nat.zero_le _, r⟩⟩
    · exact ((Below.refl _ _).alloc (Nat.le_refl _) _).grown hgrow1 (by simp) (fun k hk => by cases hk; exact Nat.le_refl _)
end Go.Proofs.YtkecimhohmkkkaaDoor.tre
