/- Layer 7: of the laws: few and small. -/
import Derived.Test.YtodobacgbbpmfaaDoorLabChk
import Derived.Test.YtodobacgbbpmfaaDoorRepA
namespace Go.Proofs.YtodobacgbbpmfaaDoor.lab
open Go.RowKit Go.Proofs.YtodobacgbbpmfaaDoor.rep

theorem info_parts {e : TypeId} {z : Value} {n b : Nat} (h : (Tryd.prog.info? e).map (fun i => (i.zero, i.size, i.bytes)) = some (some z, n, b)) : ∃ i, Tryd.prog.info? e = some i ∧ i.zero = some z ∧ i.size = n ∧ i.bytes = b := by
  cases hi : Tryd.prog.info? e with
  | none => rw [hi] at h; cases h
  | some i =>
    rw [hi] at h
    simp only [Option.map_some, Option.some.injEq, Prod.mk.injEq] at h
    exact ⟨i, rfl, h.1, h.2.1, h.2.2⟩
theorem info_Pr : (Tryd.prog.info? 43).map (fun i => (i.zero, i.size, i.bytes)) = some (some (.agg #[.string ByteArray.empty, .string ByteArray.empty]), 2, 32) := by kernel_rfl
theorem info_Wt : (Tryd.prog.info? 37).map (fun i => (i.zero, i.size, i.bytes)) = some (some (.agg #[.string ByteArray.empty, .string ByteArray.empty, .slice none 0 0]), 3, 56) := by kernel_rfl
theorem info_Tx : (Tryd.prog.info? 9).map (fun i => (i.zero, i.size, i.bytes)) = some (some (.string ByteArray.empty), 1, 16) := by kernel_rfl
theorem one_Pr (B : Nat) : ∀ W cs x, (prR B).at_ W cs x → ∀ u ∈ cs, u.oneCell' = true := by
  rintro W cs x ⟨rfl, _⟩ u hu
  simp only [List.mem_cons, List.not_mem_nil, or_false] at hu
  rcases hu with rfl | rfl <;> rfl
theorem one_Tx (B : Nat) : ∀ W cs x, (text B).at_ W cs x → ∀ u ∈ cs, u.oneCell' = true := by
  rintro W cs x ⟨rfl, _⟩ u hu
  simp only [List.mem_cons, List.not_mem_nil, or_false] at hu
  rcases hu with rfl; rfl
theorem one_Wt (B : Nat) : ∀ W cs x, (wtR B).at_ W cs x → ∀ u ∈ cs, u.oneCell' = true := by
  rintro W cs x ⟨v, rfl, _, _, a, c, rfl, _⟩ u hu
  simp only [List.mem_cons, List.not_mem_nil, or_false] at hu
  rcases hu with rfl | rfl | rfl <;> rfl

theorem few_any (a : Option Addr) (c : Nat) (l : List Pr) (hl : l.length ≤ c) (hc : c ≤ 9223372036854775807) (m : Nat) (hm : m = (l.take 8).length) (w : World) :
    Calls Tryd.prog 11 #[.slice a l.length c] w fun e w' => e = .returned (.slice a m c) ∧ w = w' := by
  by_cases h : 8 < l.length
  · have H : Hid (m = 8) := by rw [hm, List.length_take]; exact Nat.min_eq_left (by omega)
    have h2 : (8 : Int) < (l.length : Int) := by omega
    clear hm
    go_enter Tryd.func11, Tryd.ntmps11
    go_wp2
    go_ret
    exact ⟨by rw [H.out]; rfl, rfl⟩
  · have H : Hid (m = l.length) := by rw [hm, List.length_take]; exact Nat.min_eq_right (by omega)
    have h2 : ¬ (8 : Int) < (l.length : Int) := by omega
    clear h hm
    go_enter Tryd.func11, Tryd.ntmps11
    go_wp2
    go_ret
    exact ⟨by rw [H.out]; rfl, rfl⟩

def cutW (x : Wt) : Wt := ⟨x.key, x.how, x.vals.take 8⟩
def smallS (s : Sel) : Sel := ⟨s.labels.take 8, (s.wants.take 8).map cutW⟩
def SmallTo (B : Nat) (s : Sel) (w0 w : World) (e : Ending) (w' : World) : Prop := ∃ a m c t css, e = .returned (.agg #[.slice a m c, t]) ∧ m = (smallS s).labels.length ∧ m ≤ c ∧ c ≤ 9223372036854775807 ∧ RowIn (prR B) w0 a (smallS s).labels ∧
  Lists (wtR B) w0 css (smallS s).wants ∧ w'.ownsRow w.heap.size 37 3 t (smallS s).wants.length css.flatten ∧ Below w.heap.size w w'
theorem sel_size : (Tryd.prog.info? 25).map (·.size) = some 2 := by kernel_rfl
theorem cut_at {B : Nat} {W : World} {x : Wt} {ya : Option Addr} {yc m : Nat} (h1 : x.key.size ≤ B) (h2 : x.how.size ≤ B) (hc : yc ≤ 9223372036854775807) (hl : x.vals.length ≤ yc) (hB : x.vals.length ≤ B) (hr : RowIn (text B) W ya x.vals) (hm : m = (x.vals.take 8).length) :
    (wtR B).at_ W [.string x.key, .string x.how, .slice ya m yc] (cutW x) := by
  subst hm
  have : (x.vals.take 8).length ≤ x.vals.length := by simp; omega
  exact ⟨_, rfl, h1, h2, ya, yc, rfl, Nat.le_trans this hl, hc, Nat.le_trans this hB, hr.take 8⟩
theorem take_snoc {α : Type} {l : List α} {k : Nat} (h : k < l.length) : l.take (k + 1) = l.take k ++ [l[k]] := List.take_succ_eq_append_getElem h
def WtCells (x : Wt) (y : Value) : List Value := [.string x.key, .string x.how, y]
set_option maxRecDepth 100000 in
set_option maxHeartbeats 4000000 in
theorem small_any (B : Nat) (hB : B ≤ 140737488355328) (s : Sel) (u t : Value) (w0 w : World) (hb0 : Below w0.heap.size w0 w) (hu : RowAt B (prR B) w0 u s.labels) (ht : RowAt B (wtR B) w0 t s.wants) :
    Calls Tryd.prog 10 #[.agg #[u, t]] w (SmallTo B s w0 w) := by
  obtain ⟨i0, hi0, hz0, hz1, hz2⟩ := info_parts info_Wt
  obtain ⟨au, cu, rfl, hlu, hcu, hlB, hru⟩ := hu
  obtain ⟨at_, ct, rfl, hlt, hct, htB, hrt⟩ := ht
  obtain ⟨m, hm⟩ : ∃ m, m = (s.labels.take 8).length := ⟨_, rfl⟩
  have cf := fun w => few_any au cu s.labels hlu hcu m hm w
  have hmc : m ≤ s.labels.length := by rw [hm, List.length_take]; omega
  have HU := Lib.hid (show m = (smallS s).labels.length ∧ RowIn (prR B) w0 au (smallS s).labels from ⟨hm, hru.take 8⟩)
  obtain ⟨l8, hl8⟩ : ∃ l8, l8 = s.wants.take 8 := ⟨_, rfl⟩
  have Hr8 := Lib.hid (show RowIn (wtR B) w0 at_ l8 by rw [hl8]; exact hrt.take 8)
  have HW : Hid ((smallS s).wants = l8.map cutW) := by rw [hl8]; rfl
  have hl8B : l8.length ≤ 8 := by rw [hl8, List.length_take]; omega
  have hl8s : l8.length ≤ s.wants.length := by rw [hl8, List.length_take]; omega
  clear hru hrt hm
  by_cases h8 : 8 < s.wants.length
  · have h82 : (8 : Int) < (s.wants.length : Int) := by omega
    have HN : Hid (l8.length = 8) := by rw [hl8, List.length_take]; exact Nat.min_eq_left (by omega)
    clear hl8
    go_enter Tryd.func10, Tryd.ntmps10
    go_wp2_with fail
    refine (cf _).mono ?_
    rintro e w1 ⟨rfl, rfl⟩
    go_wp2
    go_loopw [3, 4] (fun v i wr => ∃ (k : Nat) (css : List (List Value)), k ≤ 8 ∧ i = .int .i64 k ∧ Hid (wr.ownsRow (w.heap.size + 2) 37 3 v k css.flatten) ∧ Hid (Lists (wtR B) w0 css ((l8.take k).map cutW)) ∧ Hid (wr.heap[w.heap.size]? = some (.cells #[.slice au m cu, .slice at_ 8 ct] 25 (0, 0))) ∧ Hid (wr.heap[w.heap.size + 1]? = some (.cells #[.slice none 0 0, .slice none 0 0] 25 (0, 0))) ∧ Below w.heap.size w wr ∧ w.heap.size + 2 ≤ wr.heap.size) (fun _ i _ => 8 - (intOf i).toNat)
    case atStart => exact ⟨0, [], by omega, rfl, World.ownsRow_nil _ _ _ _, Lists.nil _ _, (Below.heap_alloc _ _ _ (by simp)).trans (heap_alloc_new _ _), by have := heap_alloc_new (w.alloc (.cells #[.slice au m cu, .slice at_ 8 ct] 25)) (.cells #[.slice none 0 0, .slice none 0 0] 25); rwa [World.size_alloc] at this, chain (below_new _ _) (below_new _ _), by simp⟩
    case round =>
      obtain ⟨k, css, hk, rfl, Hown, HL, Hg, Hg1, hbr, hsz⟩ := hrel
      have e0 : wr.cell? ⟨w.heap.size, 0, none⟩ = some (.slice au m cu) := cell_of_row wr w.heap.size 0 _ _ (0, 0) Hg.out
      have e1 : wr.cell? ⟨w.heap.size, 1, none⟩ = some (.slice at_ 8 ct) := cell_of_row wr w.heap.size 1 _ _ (0, 0) Hg.out
      by_cases hlk : k < 8
      · have hk8 : k < l8.length := by have := HN.out; omega
        obtain ⟨b, off, rfl, hbl, cs, hat, hcell⟩ := Hr8.out.get hk8
        obtain ⟨y, hcs, hy1, hy2, ya, yc, rfl, hyl, hyc, hyB, hyr⟩ := hat
        subst hcs
        have c0 : wr.cell? ⟨b, off + k * 3, none⟩ = some (.string l8[k].key) := ((chain hb0 hbr).cell (p := ⟨b, off + k * 3, none⟩) hbl).trans (hcell 0 _ rfl)
        have c1 : wr.cell? ⟨b, off + k * 3 + 1, none⟩ = some (.string l8[k].how) := ((chain hb0 hbr).cell (p := ⟨b, off + k * 3 + 1, none⟩) hbl).trans (hcell 1 _ rfl)
        have c2 : wr.cell? ⟨b, off + k * 3 + 2, none⟩ = some (.slice ya l8[k].vals.length yc) := ((chain hb0 hbr).cell (p := ⟨b, off + k * 3 + 2, none⟩) hbl).trans (hcell 2 _ rfl)
        clear hcell
        by_cases hv8 : 8 < l8[k].vals.length
        · have hv82 : (8 : Int) < (l8[k].vals.length : Int) := by omega
          have HM := Lib.hid (show 8 = (l8[k].vals.take 8).length by rw [List.length_take]; omega)
          have Hat := Lib.hid (cut_at (m := 8) hy1 hy2 hyc hyl hyB hyr HM.out)
          clear hv8
          go_wp2_with (first
            | (at_builtin; refine wpList_append_own_at _ rfl _ _ 23 rfl (w.heap.size + 2) 37 i0 _ 3 56 Tryd.underlying23 hi0 hz0 hz1 hz2 rfl (by decide) _ k css.flatten rfl ((Hown.out.alloc _).alloc _) ⟨wr.heap.size + 1, 0, none⟩ 1 1 [.string l8[k].key, .string l8[k].how, .slice ya 8 yc] rfl rfl (cells_new (by simp) _ _) (by intro u hu; simp only [List.mem_cons, List.not_mem_nil, or_false] at hu; rcases hu with rfl | rfl | rfl <;> rfl) (by unfold maxLen; omega) (by omega) (by simp; omega) ?_; intro v' w2 hown2 hg2 _ hat2))
          have hb2 := below_own (chain hbr (chain (below_new wr _) (below_new _ _))) hg2 ((Hown.out.alloc _).alloc _) (by omega)
          have hs2 := hg2.size
          simp at hs2
          have hbl2 := chain (below_new wr (.cells #[.string l8[k].key, .string l8[k].how, .slice ya 8 yc] 37)) (below_new (wr.alloc (.cells #[.string l8[k].key, .string l8[k].how, .slice ya 8 yc] 37)) (.cells #[.string l8[k].key, .string l8[k].how, .slice ya 8 yc] 37))
          have hold : ∀ i o, i < w.heap.size + 2 → wr.heap[i]? = some o → w2.heap[i]? = some o := fun i o hi ho =>
            (grown_old hg2 ((Hown.out.alloc _).alloc _) (Nat.lt_of_lt_of_le (Array.getElem?_eq_some_iff.1 ho).1 hbl2.size) hi).trans (blk_later ho hbl2)
          go_roundw
          case rel => exact ⟨k + 1, css ++ [[.string l8[k].key, .string l8[k].how, .slice ya 8 yc]], by omega, by go_num, Lib.hid (by rw [List.flatten_append]; simpa using hown2), by rw [take_snoc hk8, List.map_append]; exact HL.out.append (Lists.one Hat.out), hold _ _ (by omega) Hg.out, hold _ _ (by omega) Hg1.out, hb2, by omega⟩
          case measure => simp [intOf]; omega
        · have hv82 : ¬ (8 : Int) < (l8[k].vals.length : Int) := by omega
          have HM := Lib.hid (show l8[k].vals.length = (l8[k].vals.take 8).length by rw [List.length_take]; omega)
          have Hat := Lib.hid (cut_at (m := l8[k].vals.length) hy1 hy2 hyc hyl hyB hyr HM.out)
          clear hv8
          go_wp2_with (first
            | (at_builtin; refine wpList_append_own_at _ rfl _ _ 23 rfl (w.heap.size + 2) 37 i0 _ 3 56 Tryd.underlying23 hi0 hz0 hz1 hz2 rfl (by decide) _ k css.flatten rfl ((Hown.out.alloc _).alloc _) ⟨wr.heap.size + 1, 0, none⟩ 1 1 [.string l8[k].key, .string l8[k].how, .slice ya l8[k].vals.length yc] rfl rfl (cells_new (by simp) _ _) (by intro u hu; simp only [List.mem_cons, List.not_mem_nil, or_false] at hu; rcases hu with rfl | rfl | rfl <;> rfl) (by unfold maxLen; omega) (by omega) (by simp; omega) ?_; intro v' w2 hown2 hg2 _ hat2))
          have hb2 := below_own (chain hbr (chain (below_new wr _) (below_new _ _))) hg2 ((Hown.out.alloc _).alloc _) (by omega)
          have hs2 := hg2.size
          simp at hs2
          have hbl2 := chain (below_new wr (.cells #[.string l8[k].key, .string l8[k].how, .slice ya l8[k].vals.length yc] 37)) (below_new (wr.alloc (.cells #[.string l8[k].key, .string l8[k].how, .slice ya l8[k].vals.length yc] 37)) (.cells #[.string l8[k].key, .string l8[k].how, .slice ya l8[k].vals.length yc] 37))
          have hold : ∀ i o, i < w.heap.size + 2 → wr.heap[i]? = some o → w2.heap[i]? = some o := fun i o hi ho =>
            (grown_old hg2 ((Hown.out.alloc _).alloc _) (Nat.lt_of_lt_of_le (Array.getElem?_eq_some_iff.1 ho).1 hbl2.size) hi).trans (blk_later ho hbl2)
          go_roundw
          case rel => exact ⟨k + 1, css ++ [[.string l8[k].key, .string l8[k].how, .slice ya l8[k].vals.length yc]], by omega, by go_num, Lib.hid (by rw [List.flatten_append]; simpa using hown2), by rw [take_snoc hk8, List.map_append]; exact HL.out.append (Lists.one Hat.out), hold _ _ (by omega) Hg.out, hold _ _ (by omega) Hg1.out, hb2, by omega⟩
          case measure => simp [intOf]; omega
      · have HkN := Lib.hid (show k = l8.length by have := HN.out; omega)
        obtain ⟨oa, oc, rfl⟩ := own_form Hown.out
        have q0 := blk_frozen Hg.out 0
        have q1 := blk_frozen Hg.out 1
        have q2 := blk_frozen Hg1.out 0
        have q3 := blk_frozen Hg1.out 1
        have e2 : wr.cell? ⟨w.heap.size + 1, 0, none⟩ = some (.slice none 0 0) := blk_cell Hg1.out 0
        have e3 : wr.cell? ⟨w.heap.size + 1, 1, none⟩ = some (.slice none 0 0) := blk_cell Hg1.out 1
        go_wp2
        obtain ⟨wf, hwf⟩ : ∃ wf, wf = ((wr.setCell ⟨w.heap.size, 1, none⟩ (.slice oa k oc)).setCell ⟨w.heap.size + 1, 0, none⟩ (.slice au m cu)).setCell ⟨w.heap.size + 1, 1, none⟩ (.slice oa k oc) := ⟨_, rfl⟩
        rw [← hwf]
        have hbf : Below w.heap.size w wf := by
          rw [hwf]
          exact ((hbr.setCell (Nat.le_refl _) _).setCell (Nat.le_succ _) _).setCell (Nat.le_succ _) _
        have hblk : wf.heap[w.heap.size + 1]? = some (.cells #[.slice au m cu, .slice oa k oc] 25 (0, 0)) := by
          rw [hwf]
          have h1 := (blk_far (W := wr) (b := w.heap.size + 1) (p := ⟨w.heap.size, 1, none⟩) (.slice oa k oc) (by show w.heap.size + 1 ≠ w.heap.size; omega)).trans Hg1.out
          exact blk_set (blk_set h1 0 _) 1 _
        have hfar : ∀ i, w.heap.size + 2 ≤ i → i < wr.heap.size → wf.heap[i]? = wr.heap[i]? := fun i hi _ => by
          rw [hwf, blk_far _ (by show i ≠ w.heap.size + 1; omega), blk_far _ (by show i ≠ w.heap.size + 1; omega), blk_far _ (by show i ≠ w.heap.size; omega)]
        have hlen : (l8.map cutW).length = k := by rw [List.length_map]; exact HkN.out.symm
        have hrow := own_base (own_stays Hown.out hfar) (show w.heap.size ≤ w.heap.size + 2 by omega)
        refine bodyPost_ret (results_cell_row rfl _ _ (w.heap.size + 1) 25 _ (0, 0) _ rfl hblk Tryd.underlying25 rfl sel_size) rfl ⟨_, _, _, _, css, rfl, HU.out.1, by omega, hcu, HU.out.2, ?_, ?_, hbf⟩
        · have := HL.out
          rw [HkN.out, List.take_length] at this
          rw [HW.out]; exact this
        · rw [HW.out, hlen]; exact hrow
  · have h82 : ¬ (8 : Int) < (s.wants.length : Int) := by omega
    have HN : Hid (l8.length = s.wants.length) := by rw [hl8, List.length_take]; exact Nat.min_eq_right (by omega)
    clear hl8 h8
    go_enter Tryd.func10, Tryd.ntmps10
    go_wp2_with fail
    refine (cf _).mono ?_
    rintro e w1 ⟨rfl, rfl⟩
    go_wp2
    go_loopw [3, 4] (fun v i wr => ∃ (k : Nat) (css : List (List Value)), k ≤ s.wants.length ∧ i = .int .i64 k ∧ Hid (wr.ownsRow (w.heap.size + 2) 37 3 v k css.flatten) ∧ Hid (Lists (wtR B) w0 css ((l8.take k).map cutW)) ∧ Hid (wr.heap[w.heap.size]? = some (.cells #[.slice au m cu, .slice at_ s.wants.length ct] 25 (0, 0))) ∧ Hid (wr.heap[w.heap.size + 1]? = some (.cells #[.slice none 0 0, .slice none 0 0] 25 (0, 0))) ∧ Below w.heap.size w wr ∧ w.heap.size + 2 ≤ wr.heap.size) (fun _ i _ => s.wants.length - (intOf i).toNat)
    case atStart => exact ⟨0, [], by omega, rfl, World.ownsRow_nil _ _ _ _, Lists.nil _ _, (Below.heap_alloc _ _ _ (by simp)).trans (heap_alloc_new _ _), by have := heap_alloc_new (w.alloc (.cells #[.slice au m cu, .slice at_ s.wants.length ct] 25)) (.cells #[.slice none 0 0, .slice none 0 0] 25); rwa [World.size_alloc] at this, chain (below_new _ _) (below_new _ _), by simp⟩
    case round =>
      obtain ⟨k, css, hk, rfl, Hown, HL, Hg, Hg1, hbr, hsz⟩ := hrel
      have e0 : wr.cell? ⟨w.heap.size, 0, none⟩ = some (.slice au m cu) := cell_of_row wr w.heap.size 0 _ _ (0, 0) Hg.out
      have e1 : wr.cell? ⟨w.heap.size, 1, none⟩ = some (.slice at_ s.wants.length ct) := cell_of_row wr w.heap.size 1 _ _ (0, 0) Hg.out
      by_cases hlk : k < s.wants.length
      · have hk8 : k < l8.length := by have := HN.out; omega
        obtain ⟨b, off, rfl, hbl, cs, hat, hcell⟩ := Hr8.out.get hk8
        obtain ⟨y, hcs, hy1, hy2, ya, yc, rfl, hyl, hyc, hyB, hyr⟩ := hat
        subst hcs
        have c0 : wr.cell? ⟨b, off + k * 3, none⟩ = some (.string l8[k].key) := ((chain hb0 hbr).cell (p := ⟨b, off + k * 3, none⟩) hbl).trans (hcell 0 _ rfl)
        have c1 : wr.cell? ⟨b, off + k * 3 + 1, none⟩ = some (.string l8[k].how) := ((chain hb0 hbr).cell (p := ⟨b, off + k * 3 + 1, none⟩) hbl).trans (hcell 1 _ rfl)
        have c2 : wr.cell? ⟨b, off + k * 3 + 2, none⟩ = some (.slice ya l8[k].vals.length yc) := ((chain hb0 hbr).cell (p := ⟨b, off + k * 3 + 2, none⟩) hbl).trans (hcell 2 _ rfl)
        clear hcell
        by_cases hv8 : 8 < l8[k].vals.length
        · have hv82 : (8 : Int) < (l8[k].vals.length : Int) := by omega
          have HM := Lib.hid (show 8 = (l8[k].vals.take 8).length by rw [List.length_take]; omega)
          have Hat := Lib.hid (cut_at (m := 8) hy1 hy2 hyc hyl hyB hyr HM.out)
          clear hv8
          go_wp2_with (first
            | (at_builtin; refine wpList_append_own_at _ rfl _ _ 23 rfl (w.heap.size + 2) 37 i0 _ 3 56 Tryd.underlying23 hi0 hz0 hz1 hz2 rfl (by decide) _ k css.flatten rfl ((Hown.out.alloc _).alloc _) ⟨wr.heap.size + 1, 0, none⟩ 1 1 [.string l8[k].key, .string l8[k].how, .slice ya 8 yc] rfl rfl (cells_new (by simp) _ _) (by intro u hu; simp only [List.mem_cons, List.not_mem_nil, or_false] at hu; rcases hu with rfl | rfl | rfl <;> rfl) (by unfold maxLen; omega) (by omega) (by simp; omega) ?_; intro v' w2 hown2 hg2 _ hat2))
          have hb2 := below_own (chain hbr (chain (below_new wr _) (below_new _ _))) hg2 ((Hown.out.alloc _).alloc _) (by omega)
          have hs2 := hg2.size
          simp at hs2
          have hbl2 := chain (below_new wr (.cells #[.string l8[k].key, .string l8[k].how, .slice ya 8 yc] 37)) (below_new (wr.alloc (.cells #[.string l8[k].key, .string l8[k].how, .slice ya 8 yc] 37)) (.cells #[.string l8[k].key, .string l8[k].how, .slice ya 8 yc] 37))
          have hold : ∀ i o, i < w.heap.size + 2 → wr.heap[i]? = some o → w2.heap[i]? = some o := fun i o hi ho =>
            (grown_old hg2 ((Hown.out.alloc _).alloc _) (Nat.lt_of_lt_of_le (Array.getElem?_eq_some_iff.1 ho).1 hbl2.size) hi).trans (blk_later ho hbl2)
          go_roundw
          case rel => exact ⟨k + 1, css ++ [[.string l8[k].key, .string l8[k].how, .slice ya 8 yc]], by omega, by go_num, Lib.hid (by rw [List.flatten_append]; simpa using hown2), by rw [take_snoc hk8, List.map_append]; exact HL.out.append (Lists.one Hat.out), hold _ _ (by omega) Hg.out, hold _ _ (by omega) Hg1.out, hb2, by omega⟩
          case measure => simp [intOf]; omega
        · have hv82 : ¬ (8 : Int) < (l8[k].vals.length : Int) := by omega
          have HM := Lib.hid (show l8[k].vals.length = (l8[k].vals.take 8).length by rw [List.length_take]; omega)
          have Hat := Lib.hid (cut_at (m := l8[k].vals.length) hy1 hy2 hyc hyl hyB hyr HM.out)
          clear hv8
          go_wp2_with (first
            | (at_builtin; refine wpList_append_own_at _ rfl _ _ 23 rfl (w.heap.size + 2) 37 i0 _ 3 56 Tryd.underlying23 hi0 hz0 hz1 hz2 rfl (by decide) _ k css.flatten rfl ((Hown.out.alloc _).alloc _) ⟨wr.heap.size + 1, 0, none⟩ 1 1 [.string l8[k].key, .string l8[k].how, .slice ya l8[k].vals.length yc] rfl rfl (cells_new (by simp) _ _) (by intro u hu; simp only [List.mem_cons, List.not_mem_nil, or_false] at hu; rcases hu with rfl | rfl | rfl <;> rfl) (by unfold maxLen; omega) (by omega) (by simp; omega) ?_; intro v' w2 hown2 hg2 _ hat2))
          have hb2 := below_own (chain hbr (chain (below_new wr _) (below_new _ _))) hg2 ((Hown.out.alloc _).alloc _) (by omega)
          have hs2 := hg2.size
          simp at hs2
          have hbl2 := chain (below_new wr (.cells #[.string l8[k].key, .string l8[k].how, .slice ya l8[k].vals.length yc] 37)) (below_new (wr.alloc (.cells #[.string l8[k].key, .string l8[k].how, .slice ya l8[k].vals.length yc] 37)) (.cells #[.string l8[k].key, .string l8[k].how, .slice ya l8[k].vals.length yc] 37))
          have hold : ∀ i o, i < w.heap.size + 2 → wr.heap[i]? = some o → w2.heap[i]? = some o := fun i o hi ho =>
            (grown_old hg2 ((Hown.out.alloc _).alloc _) (Nat.lt_of_lt_of_le (Array.getElem?_eq_some_iff.1 ho).1 hbl2.size) hi).trans (blk_later ho hbl2)
          go_roundw
          case rel => exact ⟨k + 1, css ++ [[.string l8[k].key, .string l8[k].how, .slice ya l8[k].vals.length yc]], by omega, by go_num, Lib.hid (by rw [List.flatten_append]; simpa using hown2), by rw [take_snoc hk8, List.map_append]; exact HL.out.append (Lists.one Hat.out), hold _ _ (by omega) Hg.out, hold _ _ (by omega) Hg1.out, hb2, by omega⟩
          case measure => simp [intOf]; omega
      · have HkN := Lib.hid (show k = l8.length by have := HN.out; omega)
        obtain ⟨oa, oc, rfl⟩ := own_form Hown.out
        have q0 := blk_frozen Hg.out 0
        have q1 := blk_frozen Hg.out 1
        have q2 := blk_frozen Hg1.out 0
        have q3 := blk_frozen Hg1.out 1
        have e2 : wr.cell? ⟨w.heap.size + 1, 0, none⟩ = some (.slice none 0 0) := blk_cell Hg1.out 0
        have e3 : wr.cell? ⟨w.heap.size + 1, 1, none⟩ = some (.slice none 0 0) := blk_cell Hg1.out 1
        go_wp2
        obtain ⟨wf, hwf⟩ : ∃ wf, wf = ((wr.setCell ⟨w.heap.size, 1, none⟩ (.slice oa k oc)).setCell ⟨w.heap.size + 1, 0, none⟩ (.slice au m cu)).setCell ⟨w.heap.size + 1, 1, none⟩ (.slice oa k oc) := ⟨_, rfl⟩
        rw [← hwf]
        have hbf : Below w.heap.size w wf := by
          rw [hwf]
          exact ((hbr.setCell (Nat.le_refl _) _).setCell (Nat.le_succ _) _).setCell (Nat.le_succ _) _
        have hblk : wf.heap[w.heap.size + 1]? = some (.cells #[.slice au m cu, .slice oa k oc] 25 (0, 0)) := by
          rw [hwf]
          have h1 := (blk_far (W := wr) (b := w.heap.size + 1) (p := ⟨w.heap.size, 1, none⟩) (.slice oa k oc) (by show w.heap.size + 1 ≠ w.heap.size; omega)).trans Hg1.out
          exact blk_set (blk_set h1 0 _) 1 _
        have hfar : ∀ i, w.heap.size + 2 ≤ i → i < wr.heap.size → wf.heap[i]? = wr.heap[i]? := fun i hi _ => by
          rw [hwf, blk_far _ (by show i ≠ w.heap.size + 1; omega), blk_far _ (by show i ≠ w.heap.size + 1; omega), blk_far _ (by show i ≠ w.heap.size; omega)]
        have hlen : (l8.map cutW).length = k := by rw [List.length_map]; exact HkN.out.symm
        have hrow := own_base (own_stays Hown.out hfar) (show w.heap.size ≤ w.heap.size + 2 by omega)
        refine bodyPost_ret (results_cell_row rfl _ _ (w.heap.size + 1) 25 _ (0, 0) _ rfl hblk Tryd.underlying25 rfl sel_size) rfl ⟨_, _, _, _, css, rfl, HU.out.1, by omega, hcu, HU.out.2, ?_, ?_, hbf⟩
        · have := HL.out
          rw [HkN.out, List.take_length] at this
          rw [HW.out]; exact this
        · rw [HW.out, hlen]; exact hrow
end Go.Proofs.YtodobacgbbpmfaaDoor.lab
