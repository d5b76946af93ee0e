/- Layer 3: the laws' long: some text of at most 1000 bytes. -/
import Derived.Test.YtdiighgnlckllaaDoorNamRow
import Derived.Deep.DeepCutAuto
namespace Go.Proofs.YtdiighgnlckllaaDoor.nam
open Go.RowKit Go.Shelf

theorem info_u8 : (Tryd.prog.info? 5).map (fun i => (i.zero, i.size, i.bytes)) = some (some (.int .u8 0), 1, 1) := by kernel_rfl
def LongPost (w : World) (e : Ending) (w' : World) : Prop := ∃ t : ByteArray, t.size ≤ 1000 ∧ e = .returned (.string t) ∧ Below w.heap.size w w'
theorem strOfNums_size (xs : List Int) : (strOfNums xs).size = xs.length := by unfold strOfNums; simp [ByteArray.size]
theorem conv_out {w : World} {base g n cap : Nat} {xs : List Int} (h : RowF w base 5 g n cap (u8s xs)) : (convert 31 9 (.slice (some ⟨g, 0, none⟩) n cap)).run Tryd.prog w = .ok (.string (strOfNums xs)) w := by
  have hl : xs.length = n := by have := h.len; unfold u8s at this; rw [List.length_map] at this; exact this
  refine run_convert_bytes_arg (P := Tryd.prog) _ 31 5 Tryd.underlying31 Tryd.underlying5 g 0 n cap xs hl (fun i hi => ?_) 9 Tryd.underlying9
  rw [Nat.zero_add, h.cell i hi]
  unfold u8s
  rw [List.getElem?_map, List.getElem?_eq_getElem (by omega), List.getD_eq_getElem?_getD, List.getElem?_eq_getElem (by omega)]
  rfl

set_option maxRecDepth 100000 in
set_option maxHeartbeats 2000000 in
theorem long_short (s : ByteArray) (hs : s.size ≤ 80) (more : Int) (w : World) :
    Calls Tryd.prog 10 #[.string s, .int .i64 more] w (LongPost w) := by
  by_cases h0 : s.size = 0
  · have e0 : ((s.size : Int) == 0) = true := beq_iff_eq.2 (by omega)
    go_enter Tryd.func10, Tryd.ntmps10
    go_wp2
    go_ret
    exact ⟨s, by omega, rfl, Below.refl _ _⟩
  · have e0 : ((s.size : Int) == 0) = false := beq_eq_false_iff_ne.2 (by omega)
    obtain ⟨i0, hi, hz0, hz1, hz2⟩ := info_parts info_u8
    obtain ⟨cap0, W1, hcv, hb1, hrow1⟩ := conv_rowF w s (by omega)
    have hpos : 0 < s.size := by omega
    have hll : (s.data.toList.map fun b => (b.toNat : Int)).length = s.size := by rw [List.length_map, len_data]
    generalize (s.data.toList.map fun b => (b.toNat : Int)) = xs0 at hrow1 hll
    clear h0
    have hs' : ¬ (80 : Int) < s.size := by omega
    go_enter Tryd.func10, Tryd.ntmps10
    go_wp2
    generalize (wrap64 (more.tmod 600 + 600)).tmod 600 = N
    go_loopw [5, 7] (fun v a wr => ∃ (g cap m k : Nat) (xs : List Int), v = .slice (some ⟨g, 0, none⟩) m cap ∧ a = .int .i64 k ∧ Hid (m = s.size + k) ∧ m ≤ 600 ∧ RowF wr w.heap.size 5 g m cap (u8s xs) ∧ Below w.heap.size w wr)
      (fun _ a _ => 600 - (intOf a).toNat)
    case atStart => exact ⟨w.heap.size, cap0, s.size, 0, xs0, rfl, rfl, (show s.size = s.size + 0 from rfl), by omega, hrow1, hb1⟩
    case round =>
      obtain ⟨g, cap, m, k, xs, rfl, rfl, hm, hm6, hrow, hB⟩ := hrel
      have hkm : k ≤ m := by have := hm.out; omega
      by_cases hk : (k : Int) < N
      · by_cases hm5 : m < 600
        · have hm5' : (m : Int) < 600 := by omega
          have hidx : (s.size : Int) - 1 < s.size := by omega
          have hidx0 : (0 : Int) ≤ (s.size : Int) - 1 := by omega
          have hB5 := fun o => hB.alloc hB.size o
          go_wp2_with (at_builtin; refine wpList_append_rowF rfl _ _ 31 rfl i0 (.int .u8 0) 1 Tryd.underlying31 hi hz0 hz1 hz2 rfl rfl (hrow.alloc _) ⟨wr.heap.size, 0, none⟩ 1 (.int .u8 (s[s.size - 1]'(by omega)).toNat) rfl (cell_of_row _ _ _ _ _ _ (heap_alloc_new wr _)) rfl (by unfold maxLen; omega) (by omega) (by have := hB.size; simp; omega) ?_; intro g' cap' w4 hown' hgrow)
          have hgr : Below w.heap.size w w4 := (hB5 _).grown hgrow (by have := hB.size; simp; omega) (fun k' e => Option.some.inj e ▸ hrow.1)
          go_roundw
          case rel => exact ⟨g', cap', m + 1, k + 1, xs ++ [_], rfl, by go_num, (show m + 1 = s.size + (k + 1) by have := hm.out; omega), by omega, by unfold u8s; rw [List.map_append]; exact hown', hgr⟩
          case measure => simp [intOf]; omega
        · have hm5' : ¬ (m : Int) < 600 := by omega
          have hcvo := conv_out hrow
          go_wp2
          go_ret
          exact ⟨_, by rw [strOfNums_size]; have := hrow.len; unfold u8s at this; rw [List.length_map] at this; omega, rfl, hB⟩
      · have hcvo := conv_out hrow
        go_wp2
        go_ret
        exact ⟨_, by rw [strOfNums_size]; have := hrow.len; unfold u8s at this; rw [List.length_map] at this; omega, rfl, hB⟩

set_option maxRecDepth 100000 in
set_option maxHeartbeats 2000000 in
theorem long_cut (s : ByteArray) (hs : 80 < s.size) (more : Int) (w : World) :
    Calls Tryd.prog 10 #[.string s, .int .i64 more] w (LongPost w) := by
  have hs' : (80 : Int) < s.size := by omega
  have hx : (s.extract 0 80).size = 80 := by rw [ByteArray.size_extract]; omega
  have Hx := Lib.hid hx
  clear hx
  go_enter Tryd.func10, Tryd.ntmps10
  go_upto_region 3 with (fail)
  generalize s.extract 0 80 = x at Hx ⊢
  have hxs : x.size ≤ 80 := by have := Hx.out; omega
  have hpos : 0 < x.size := by have := Hx.out; omega
  have e0 : ((x.size : Int) == 0) = false := beq_eq_false_iff_ne.2 (by omega)
  obtain ⟨i0, hi, hz0, hz1, hz2⟩ := info_parts info_u8
  obtain ⟨cap0, W1, hcv, hb1, hrow1⟩ := conv_rowF w x (by omega)
  have hll : (x.data.toList.map fun b => (b.toNat : Int)).length = x.size := by rw [List.length_map, len_data]
  generalize (x.data.toList.map fun b => (b.toNat : Int)) = xs0 at hrow1 hll
  go_wp2
  generalize (wrap64 (more.tmod 600 + 600)).tmod 600 = N
  go_loopw [5, 7] (fun v a wr => ∃ (g cap m k : Nat) (xs : List Int), v = .slice (some ⟨g, 0, none⟩) m cap ∧ a = .int .i64 k ∧ Hid (m = x.size + k) ∧ m ≤ 600 ∧ RowF wr w.heap.size 5 g m cap (u8s xs) ∧ Below w.heap.size w wr)
    (fun _ a _ => 600 - (intOf a).toNat)
  case atStart => exact ⟨w.heap.size, cap0, x.size, 0, xs0, rfl, rfl, (show x.size = x.size + 0 from rfl), by omega, hrow1, hb1⟩
  case round =>
    obtain ⟨g, cap, m, k, xs, rfl, rfl, hm, hm6, hrow, hB⟩ := hrel
    have hkm : k ≤ m := by have := hm.out; omega
    by_cases hk : (k : Int) < N
    · by_cases hm5 : m < 600
      · have hm5' : (m : Int) < 600 := by omega
        have hidx : (x.size : Int) - 1 < x.size := by omega
        have hidx0 : (0 : Int) ≤ (x.size : Int) - 1 := by omega
        have hB5 := fun o => hB.alloc hB.size o
        go_wp2_with (at_builtin; refine wpList_append_rowF rfl _ _ 31 rfl i0 (.int .u8 0) 1 Tryd.underlying31 hi hz0 hz1 hz2 rfl rfl (hrow.alloc _) ⟨wr.heap.size, 0, none⟩ 1 (.int .u8 (x[x.size - 1]'(by omega)).toNat) rfl (cell_of_row _ _ _ _ _ _ (heap_alloc_new wr _)) rfl (by unfold maxLen; omega) (by omega) (by have := hB.size; simp; omega) ?_; intro g' cap' w4 hown' hgrow)
        have hgr : Below w.heap.size w w4 := (hB5 _).grown hgrow (by have := hB.size; simp; omega) (fun k' e => Option.some.inj e ▸ hrow.1)
        go_roundw
        case rel => exact ⟨g', cap', m + 1, k + 1, xs ++ [_], rfl, by go_num, (show m + 1 = x.size + (k + 1) by have := hm.out; omega), by omega, by unfold u8s; rw [List.map_append]; exact hown', hgr⟩
        case measure => simp [intOf]; omega
      · have hm5' : ¬ (m : Int) < 600 := by omega
        have hcvo := conv_out hrow
        go_wp2
        go_ret
        exact ⟨_, by rw [strOfNums_size]; have := hrow.len; unfold u8s at this; rw [List.length_map] at this; omega, rfl, hB⟩
    · have hcvo := conv_out hrow
      go_wp2
      go_ret
      exact ⟨_, by rw [strOfNums_size]; have := hrow.len; unfold u8s at this; rw [List.length_map] at this; omega, rfl, hB⟩

theorem long_any (s : ByteArray) (more : Int) (w : World) :
    Calls Tryd.prog 10 #[.string s, .int .i64 more] w (LongPost w) := by
  by_cases h : 80 < s.size
  · exact long_cut s h more w
  · exact long_short s (by omega) more w
end Go.Proofs.YtdiighgnlckllaaDoor.nam
