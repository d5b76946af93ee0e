/- Layer 4: the law TreeMakes: rows make values, or not, as P4.1 says. -/
import Derived.Test.YtkecimhohmkkkaaDoorTreAwake
import Derived.Test.YtkecimhohmkkkaaDoorTreFew
import Derived.Test.YtkecimhohmkkkaaDoorTreEq
namespace Go.Proofs.YtkecimhohmkkkaaDoor.tre
open Go.RowKit Go.Shelf

set_option maxRecDepth 100000 in
theorem rMake_nil (a : Option Addr) (c : Nat) (W : World) :
    Calls Tryd.prog 13 #[.slice a 0 c] W fun e w' => ∃ p q : Sl, e = .returned (.tuple #[.agg #[.int .i64 (makeR []).1.kind, .int .i64 (makeR []).1.int, .string (makeR []).1.text, .slice p.a p.n p.c, .slice q.a q.n q.c], .bool (makeR []).2]) ∧
      HV (fun g => W.heap.size ≤ g) w' (makeR []).1 p q ∧ Below W.heap.size W w' := by
  go_enter Tryd.func13, Tryd.ntmps13
  go_wp2
  refine bodyPost_ret (results_pair rfl _ _ W.heap.size 28 _ (0, 0) _ rfl (block_new W _) Tryd.underlying28 rfl size_V) rfl ?_
  exact ⟨⟨none, 0, 0⟩, ⟨none, 0, 0⟩, rfl, nilV_lies _ _, (Below.refl _ _).alloc (Nat.le_refl _) _⟩
/-- A row that stands alone. -/
theorem own_form {w : World} {B : Nat} {a : Option Addr} {n c : Nat} {l : List It} (h : w.ownsRow B 58 5 (.slice a n c) l.length (flatI l)) : n = l.length ∧ (l = [] ∨ ∃ bl, a = some ⟨bl, 0, none⟩ ∧ bl < w.heap.size ∧ ItAt w bl 0 l ∧ l.length ≤ c ∧ c ≤ maxLen) := by
  rcases h.2 with ⟨hv, hn⟩ | ⟨g, cap, cur, hv, _, hg, hnc, hcm, _⟩
  · injection hv with _ h2 _
    exact ⟨by omega, .inl (List.eq_nil_of_length_eq_zero hn)⟩
  · injection hv with h1 h2 h3
    subst h1 h2 h3
    exact ⟨rfl, .inr ⟨g, rfl, (Array.getElem?_eq_some_iff.1 hg).1, own_items h, hnc, hcm⟩⟩
theorem Make_row (l : List It) (h2k : l.length ≤ 2000) (hsm : ∀ y ∈ l, y.key.size ≤ 1000 ∧ y.text.size ≤ 1000) (B : Nat) (sl : Sl) (W : World) (h : W.ownsRow B 58 5 (.slice sl.a sl.n sl.c) l.length (flatI l)) (hT : utf.Tab W) :
    Calls Tryd.prog 12 #[.slice sl.a sl.n sl.c] W fun e w' => ∃ p q : Sl, e = .returned (.tuple #[.agg #[.int .i64 (makeR l).1.kind, .int .i64 (makeR l).1.int, .string (makeR l).1.text, .slice p.a p.n p.c, .slice q.a q.n q.c], .bool (makeR l).2]) ∧
      HV (fun g => W.heap.size ≤ g) w' (makeR l).1 p q ∧ Below W.heap.size W w' := by
  rw [← makeT_eq l h2k]
  obtain ⟨hn, hl⟩ := own_form h
  rw [hn]
  match l, hl with
  | [], _ => exact Make_nil _ _ W
  | x :: l, hl =>
    rcases hl with hl | ⟨bl, ha, hbl, hit, _⟩
    · cases hl
    · rw [ha]
      exact Make_any x l h2k hsm bl sl.c W hbl hit hT
theorem rMake_row (l : List It) (h2k : l.length ≤ 2000) (hsm : ∀ y ∈ l, y.key.size ≤ 1000 ∧ y.text.size ≤ 1000) (B : Nat) (sl : Sl) (W : World) (h : W.ownsRow B 58 5 (.slice sl.a sl.n sl.c) l.length (flatI l)) :
    Calls Tryd.prog 13 #[.slice sl.a sl.n sl.c] W fun e w' => ∃ p q : Sl, e = .returned (.tuple #[.agg #[.int .i64 (makeR l).1.kind, .int .i64 (makeR l).1.int, .string (makeR l).1.text, .slice p.a p.n p.c, .slice q.a q.n q.c], .bool (makeR l).2]) ∧
      HV (fun g => W.heap.size ≤ g) w' (makeR l).1 p q ∧ Below W.heap.size W w' := by
  obtain ⟨hn, hl⟩ := own_form h
  rw [hn]
  by_cases he : l = []
  · subst he
    exact rMake_nil _ _ W
  · rcases hl with hl | ⟨bl, ha, hbl, hit, hlc, hcm⟩
    · exact absurd hl he
    · rw [ha]
      exact rMake_any l he h2k hsm bl sl.c W hlc hcm hbl hit
theorem few_small (l : List It) : (fewV l).length ≤ 40 ∧ ∀ y ∈ fewV l, y.key.size ≤ 1000 ∧ y.text.size ≤ 1000 := by
  unfold fewV
  refine ⟨by rw [List.length_map]; exact List.length_take_le _ _, fun y hy => ?_⟩
  obtain ⟨x, _, rfl⟩ := List.mem_map.1 hy
  have h1 := cut12_size x.key
  have h2 := cut12_size x.text
  exact ⟨Nat.le_trans h1 (by decide), Nat.le_trans h2 (by decide)⟩
theorem own_later {w w' : World} {B : Nat} {v : Value} {n : Nat} {xs : List Value} (h : w.ownsRow B 58 5 v n xs) (hb : Below w.heap.size w w') : w'.ownsRow B 58 5 v n xs := by
  obtain ⟨h1, h2⟩ := h
  refine ⟨h1, ?_⟩
  rcases h2 with h2 | ⟨g, cap, cur, hv, hB, hg, r⟩
  · exact .inl h2
  · exact .inr ⟨g, cap, cur, hv, hB, (hb.block g (Array.getElem?_eq_some_iff.1 hg).1).trans hg, r⟩
set_option maxRecDepth 100000 in
set_option maxHeartbeats 4000000 in
theorem treeMakes_any (l : List It) (hs : ∀ y ∈ l, y.key.size ≤ maxLen ∧ y.text.size ≤ maxLen) (a : Option Addr) (c : Nat) (W : World) (hl : l.length ≤ 9223372036854775807)
    (hit : l = [] ∨ ∃ bl off, a = some ⟨bl, off, none⟩ ∧ bl < W.heap.size ∧ ItIn W bl off l) (hT : utf.Tab W) :
    Calls Tryd.prog 3 #[.slice a l.length c] W fun e w' => e = .returned (.bool true) ∧ Below W.heap.size W w' := by
  have hit2 : ∀ w1, Below W.heap.size W w1 → (l = [] ∨ ∃ bl off, a = some ⟨bl, off, none⟩ ∧ bl < w1.heap.size ∧ ItIn w1 bl off l) := fun w1 hb => by
    rcases hit with h | ⟨bl, off, h1, h2, h3⟩
    · exact .inl h
    · exact .inr ⟨bl, off, h1, Nat.lt_of_lt_of_le h2 hb.size, fun i hi j u hu => (hb.cell (p := ⟨bl, off + i * 5 + j, none⟩) (by exact h2)).trans (h3 i hi j u hu)⟩
  have hfew := fun w1 (hb : Below W.heap.size W w1) => few_any l hs a c w1 hl (hit2 w1 hb)
  obtain ⟨hf1, hf2⟩ := few_small l
  generalize fewV l = f at hfew hf1 hf2
  have hm1 := fun W1 B sl h (hb : Below W.heap.size W W1) => Make_row f (by omega) hf2 B sl W1 h (hT.self hb)
  have hm2 := fun W1 B sl h => rMake_row f (by omega) hf2 B sl W1 h
  have haw := awake_any W hT
  obtain ⟨y, hy⟩ : ∃ y, makeR f = y := ⟨_, rfl⟩
  rw [hy] at hm1 hm2
  have H := Lib.hid (And.intro hfew (And.intro hm1 hm2))
  clear hit2 hfew hm1 hm2 hT hit hy hs hf2
  obtain ⟨v, i⟩ := y
  simp only at H
  go_enter Tryd.func3, Tryd.ntmps3
  go_wp2_with fail
  refine haw.mono ?_
  rintro e w1 ⟨rfl, hb1⟩
  have H1 := Lib.hid hb1
  clear hb1 haw
  go_wp2_with fail
  refine (H.out.1 w1 H1.out).mono ?_
  rintro e w2 ⟨sl, rfl, hown, hb2⟩
  have hb02 := H1.out.trans (hb2.mono H1.out.size)
  have H2 := Lib.hid (And.intro hown hb02)
  clear hown hb2 hb02
  go_wp2_with fail
  refine (H.out.2.1 w2 _ sl H2.out.1 H2.out.2).mono ?_
  rintro e w3 ⟨px, qx, rfl, hvx, hb3⟩
  have hb23 := hb3
  have H3 := Lib.hid (And.intro hvx (And.intro hb3 (own_later H2.out.1 hb23)))
  have l23 := hb3.size
  clear hvx hb3 hb23
  go_wp2_with fail
  refine (H.out.2.2 _ _ sl (own_later H3.out.2.2 ((Below.refl _ _).alloc (Nat.le_refl _) _))).mono ?_
  rintro e w4 ⟨py, qy, rfl, hvy, hb4⟩
  have v4 := (hb4.block w3.heap.size (by rw [size_alloc]; omega)).trans (block_new w3 _)
  have l4 := (Array.getElem?_eq_some_iff.1 v4).1
  have q0 : w4.cell? ⟨w3.heap.size, 0, none⟩ = some (.int .i64 v.kind) := by rw [blk_cell v4]; rfl
  have q1 : w4.cell? ⟨w3.heap.size, 1, none⟩ = some (.int .i64 v.int) := by rw [blk_cell v4]; rfl
  have q2 : w4.cell? ⟨w3.heap.size, 2, none⟩ = some (.string v.text) := by rw [blk_cell v4]; rfl
  have q3 : w4.cell? ⟨w3.heap.size, 3, none⟩ = some (.slice px.a px.n px.c) := by rw [blk_cell v4]; rfl
  have q4 : w4.cell? ⟨w3.heap.size, 4, none⟩ = some (.slice qx.a qx.n qx.c) := by rw [blk_cell v4]; rfl
  have H4 := Lib.hid (And.intro hvy hb4)
  clear hvy hb4 v4
  go_wp2_with fail
  refine (Equal_any v v (fun g => g < w4.heap.size) _ px qx py qy (fun g hg => by rw [size_alloc]; omega) (H3.out.1.map (fun j hj hl => ⟨by omega, (block_old (by omega)).trans ((H4.out.2.block j (by rw [size_alloc]; omega)).trans (block_old hl))⟩)) (H4.out.1.map (fun j hj hl => ⟨hl, block_old hl⟩))).mono ?_
  rintro e w5 ⟨⟨q, rfl, hq⟩, hb5⟩
  obtain rfl : q = true := hq.2 rfl
  go_wp2_with fail
  go_ret
  have b3 := H2.out.2.trans (H3.out.2.1.mono H2.out.2.size)
  have b4 := (b3.alloc b3.size _).trans (H4.out.2.mono (b3.alloc b3.size _).size)
  exact ⟨rfl, (b4.alloc b4.size _).trans (hb5.mono (b4.alloc b4.size _).size)⟩
end Go.Proofs.YtkecimhohmkkkaaDoor.tre
