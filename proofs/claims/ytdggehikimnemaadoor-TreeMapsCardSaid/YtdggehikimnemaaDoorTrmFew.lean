/- Layer 4: the laws' short and few. -/
import Derived.Lib.Strings
import Derived.Test.YtdggehikimnemaaDoorTrmCnt
import Derived.Test.YtdggehikimnemaaDoorTrmMade
namespace Go.Proofs.YtdggehikimnemaaDoor.tre
open Go.RowKit Go.Shelf

def cut12 (s : ByteArray) : ByteArray := if 12 < s.size then s.extract 0 12 else s
theorem cut12_size (s : ByteArray) : (cut12 s).size ≤ 12 := by
  unfold cut12
  split
  · rw [ByteArray.size_extract]; omega
  · omega
theorem short_any (s : ByteArray) (hs : s.size ≤ maxLen) (w : World) : Calls Tryd.prog 26 #[.string s] w fun e w' => e = .returned (.string (cut12 s)) ∧ w = w' := by
  unfold maxLen at hs
  by_cases h : 12 < s.size
  · have H := Lib.hid (show cut12 s = s.extract 0 12 from if_pos h)
    have hz : (12 : Int) < (s.size : Int) := by omega
    go_enter Tryd.func26, Tryd.ntmps26
    go_wp2
    go_ret
    rw [H.out]
    exact ⟨rfl, rfl⟩
  · have H := Lib.hid (show cut12 s = s from if_neg h)
    have hz : ¬ (12 : Int) < (s.size : Int) := by omega
    go_enter Tryd.func26, Tryd.ntmps26
    go_wp2
    go_ret
    rw [H.out]
    exact ⟨rfl, rfl⟩

def fewI (x : It) : It := { x with key := cut12 x.key, text := cut12 x.text }
def fewV (l : List It) : List It := (l.take 40).map fewI
/-- Items that came in: they lie at any place. -/
def ItIn (w : World) (bl off : Nat) (l : List It) : Prop := ∀ i (h : i < l.length), ∀ j u, (cellsI l[i])[j]? = some u → w.cell? ⟨bl, off + i * 5 + j, none⟩ = some u
theorem own_items {w : World} {B g n c : Nat} {l : List It} (h : w.ownsRow B 57 5 (.slice (some ⟨g, 0, none⟩) n c) n (flatI l)) : ItAt w g 0 l := by
  intro i hi j u hu
  have hj : j < 5 := by have := (List.getElem?_eq_some_iff.1 hu).1; exact this
  have h2 := h.cells (g := g) rfl (i * 5 + j) u (by
    rw [← hu]
    unfold flatI
    exact flatten_at (l.map cellsI) 5 (fun xs hx => by obtain ⟨x, _, rfl⟩ := List.mem_map.1 hx; rfl) i (cellsI l[i]) (by rw [List.getElem?_map, List.getElem?_eq_getElem hi]; rfl) j hj)
  rw [Addr.add_lit, Nat.zero_add] at h2
  simpa using h2
theorem few_len (l : List It) (i : Nat) (h : i < l.length) : (l.take (i + 1)).map fewI = (l.take i).map fewI ++ [fewI l[i]] := by
  rw [List.take_succ_eq_append_getElem h, List.map_append]; rfl

set_option maxRecDepth 100000 in
set_option maxHeartbeats 4000000 in
theorem few_any (l : List It) (hs : ∀ y ∈ l, y.key.size ≤ maxLen ∧ y.text.size ≤ maxLen) (a : Option Addr) (c : Nat) (W : World) (hl : l.length ≤ 9223372036854775807)
    (hit : l = [] ∨ ∃ bl off, a = some ⟨bl, off, none⟩ ∧ bl < W.heap.size ∧ ItIn W bl off l) :
    Calls Tryd.prog 10 #[.slice a l.length c] W fun e w' => ∃ sl : Sl, e = .returned (.slice sl.a sl.n sl.c) ∧
      w'.ownsRow W.heap.size 57 5 (.slice sl.a sl.n sl.c) (fewV l).length (flatI (fewV l)) ∧ Below W.heap.size W w' := by
  obtain ⟨i0, hi0, hz0, hz1, hz2⟩ := info_of info_item
  have Hit := Lib.hid (And.intro hit hs)
  clear hit hs
  go_enter Tryd.func10, Tryd.ntmps10
  go_wp2
  go_loopg [3, 4, 5] 40 (fun gg s3 s4 _ wr => ∃ (i : Nat) (sl : Sl), i ≤ l.length ∧ i ≤ 40 ∧ 40 - i ≤ gg ∧ s3 = .slice sl.a sl.n sl.c ∧ s4 = .int .i64 i ∧
    Hid (wr.ownsRow W.heap.size 57 5 (.slice sl.a sl.n sl.c) i (flatI ((l.take i).map fewI)) ∧ Below W.heap.size W wr))
  case atStart => exact ⟨0, ⟨none, 0, 0⟩, Nat.zero_le _, by omega, by omega, rfl, rfl, World.ownsRow_nil _ _ _ _, Below.refl _ _⟩
  case round =>
    obtain ⟨i, ⟨sa, sn, sc⟩, hil, hi40, hgg, rfl, rfl, H⟩ := hrel
    simp only at H
    by_cases hlt : i < l.length
    · have hltz : (i : Int) < (l.length : Int) := by omega
      by_cases h40 : i < 40
      · have h40z : (i : Int) < 40 := by omega
        obtain ⟨bl, off, rfl, hbl, hii⟩ : ∃ bl off, a = some ⟨bl, off, none⟩ ∧ bl < W.heap.size ∧ ItIn W bl off l := by
          rcases Hit.out.1 with h | h
          · rw [h] at hlt; simp at hlt
          · exact h
        have hin := List.getElem_mem hlt
        have hsn := few_len l i hlt
        have c0 := (H.out.2.cell (p := ⟨bl, off + i * 5, none⟩) (by exact hbl)).trans (hii i hlt 0 _ rfl)
        have c1 := (H.out.2.cell (p := ⟨bl, off + i * 5 + 1, none⟩) (by exact hbl)).trans (hii i hlt 1 _ rfl)
        have c2 := (H.out.2.cell (p := ⟨bl, off + i * 5 + 2, none⟩) (by exact hbl)).trans (hii i hlt 2 _ rfl)
        have c3 := (H.out.2.cell (p := ⟨bl, off + i * 5 + 3, none⟩) (by exact hbl)).trans (hii i hlt 3 _ rfl)
        have c4 := (H.out.2.cell (p := ⟨bl, off + i * 5 + 4, none⟩) (by exact hbl)).trans (hii i hlt 4 _ rfl)
        generalize l[i] = x at c0 c1 c2 c3 c4 hin hsn
        have Hk := Lib.hid (And.intro (fun w => short_any x.key (Hit.out.2 x hin).1 w) (fun w => short_any x.text (Hit.out.2 x hin).2 w))
        have Hsn := Lib.hid hsn
        have hownA := fun o1 o2 => (H.out.1.alloc o1).alloc o2
        have Hnews := Lib.hid (fun (o : Obj) => World.news_of_block (w := (wr.alloc o).alloc (.cells #[.int .i64 x.d, .int .i64 x.kind, .int .i64 x.int, .string (cut12 x.key), .string (cut12 x.text)] 57)) (B := wr.heap.size + 1) (by
          have := block_new (wr.alloc o) (.cells #[.int .i64 x.d, .int .i64 x.kind, .int .i64 x.int, .string (cut12 x.key), .string (cut12 x.text)] 57)
          rw [size_alloc] at this
          exact this))
        clear hii hin hsn
        have hsz := H.out.2.size
        go_wp2_with fail
        refine (Hk.out.1 _).mono ?_
        rintro e w4 ⟨rfl, rfl⟩
        go_wp2_with fail
        refine (Hk.out.2 _).mono ?_
        rintro e w4 ⟨rfl, rfl⟩
        clear c0 c1 c2 c3 c4
        go_wp2_with (at_builtin; refine wpList_append_own_at _ rfl _ _ 22 rfl W.heap.size 57 i0 _ 5 56 Tryd.underlying22 hi0 hz0 hz1 hz2 rfl (by decide) _ _ _ rfl (hownA _ _) _ 1 1 [.int .i64 x.d, .int .i64 x.kind, .int .i64 x.int, .string (cut12 x.key), .string (cut12 x.text)] rfl rfl (Hnews.out _) (by simp [Value.oneCell']) (by unfold maxLen; omega) (by omega) (by simp; omega) ?_; intro v' w1 hown1 hgrow1 _ hat1; obtain ⟨g', cap', rfl, _, _⟩ := hown1.form (by omega))
        go_roundg (40 - (i + 1))
        case measure => omega
        case rel =>
          refine ⟨i + 1, ⟨some ⟨g', 0, none⟩, i + 1, cap'⟩, by omega, by omega, by omega, rfl, by go_num, ?_, ?_⟩
          · rw [Hsn.out, flatI_snoc]
            exact hown1
          · exact ((H.out.2.alloc H.out.2.size _).alloc (by rw [size_alloc]; omega) _).grown hgrow1 (by rw [size_alloc, size_alloc]; omega) (fun k e => (H.out.1.lt k e).1)
      · obtain rfl : i = 40 := by omega
        have hfl : (fewV l).length = 40 := by unfold fewV; rw [List.length_map, List.length_take]; omega
        go_wp2
        go_ret
        refine ⟨⟨sa, sn, sc⟩, rfl, ?_, H.out.2⟩
        rw [hfl]
        exact H.out.1
    · obtain rfl : i = l.length := by omega
      have hfl : (fewV l).length = l.length := by unfold fewV; rw [List.length_map, List.length_take]; omega
      have hfe : (l.take l.length).map fewI = fewV l := by unfold fewV; rw [List.take_length, List.take_of_length_le (by omega)]
      have Hf := Lib.hid hfe
      have hltz : ¬ (l.length : Int) < (l.length : Int) := by omega
      clear hfe
      go_wp2
      go_ret
      refine ⟨⟨sa, sn, sc⟩, rfl, ?_, H.out.2⟩
      have h := H.out.1
      rw [Hf.out] at h
      exact h
end Go.Proofs.YtdggehikimnemaaDoor.tre
