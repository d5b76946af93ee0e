/- Layer 3: the contracts of names' own Subdomain and LabelKey. -/
import Derived.Test.YthflpgeonllgdaaDoorNamOwn
namespace Go.Proofs.YthflpgeonllgdaaDoor.nam
open Go.RowKit Go.Shelf

/-- What the library's parts are. -/
theorem pieces_of (c : UInt8) (s : ByteArray) : (Lib.splitB ⟨#[c]⟩ 0 (Lib.countB s ⟨#[c]⟩) s).length = Lib.countB s ⟨#[c]⟩ + 1 ∧ (Lib.splitB ⟨#[c]⟩ 0 (Lib.countB s ⟨#[c]⟩) s).map (·.data.toList) = spl c s.data.toList :=
  ⟨Lib.splitB_all (⟨#[c]⟩ : ByteArray) (Nat.le_refl 1) 0 _ s rfl, splitB_spl c s⟩
theorem piece_size {c : UInt8} {s : ByteArray} {ps : List ByteArray} (h : ps.map (·.data.toList) = spl c s.data.toList) {x : ByteArray} (hx : x ∈ ps) : x.size ≤ s.size := by
  have := spl_bound c s.data.toList x.data.toList (by rw [← h]; exact List.mem_map.2 ⟨x, hx, rfl⟩)
  rw [len_data, len_data] at this; exact this
theorem cell_row (w : World) (ps : List ByteArray) (t : TypeId) (k : Nat) (h : k < ps.length) : (w.alloc (.cells (ps.map Value.string).toArray t)).cell? ⟨w.heap.size, k, none⟩ = some (.string ps[k]) := by
  rw [cell_of_row _ w.heap.size k _ t (0, 0) (heap_alloc_new w _)]
  simp [h]
theorem sub_yes {s : ByteArray} {ps : List ByteArray} (h : ps.map (·.data.toList) = spl 46 s.data.toList) (hs : s.size ≤ 253) (ha : ∀ i (hi : i < ps.length), labB ps[i].data.toList = true) : subB s.data.toList = true := by
  unfold subB
  rw [len_data, decide_eq_true hs, ← h, Bool.true_and, List.all_eq_true]
  intro x hx
  obtain ⟨y, hy, rfl⟩ := List.mem_map.1 hx
  obtain ⟨i, hi, rfl⟩ := List.getElem_of_mem hy
  exact ha i hi
theorem sub_no {s : ByteArray} {ps : List ByteArray} (h : ps.map (·.data.toList) = spl 46 s.data.toList) (k : Nat) (hk : k < ps.length) (hn : labB ps[k].data.toList = false) : subB s.data.toList = false := by
  cases e : subB s.data.toList
  · rfl
  · unfold subB at e
    rw [← h, Bool.and_eq_true, List.all_eq_true] at e
    have := e.2 ps[k].data.toList (List.mem_map.2 ⟨_, List.getElem_mem hk, rfl⟩)
    rw [hn] at this; cases this

set_option maxHeartbeats 1000000 in
theorem Subdomain_any (s : ByteArray) (hs : s.size ≤ 2000000) (w : World) (hm : MaxL w) :
    Calls Tryd.prog 40 #[.string s] w fun e w' => e = .returned (.bool (subB s.data.toList)) ∧ Below w.heap.size w w' := by
  by_cases hlen : s.size ≤ 253
  · obtain ⟨hn, hps⟩ := pieces_of 46 s
    have cs := fun w hm => split_any s ⟨#[46]⟩ w (by omega) hm (by decide)
    generalize Lib.splitB ⟨#[46]⟩ 0 (Lib.countB s ⟨#[46]⟩) s = ps at hn hps cs
    generalize Lib.countB s ⟨#[46]⟩ + 1 = n at hn cs
    subst hn
    have hnn : ps.length ≤ 1000 := by
      have h1 := spl_len_le 46 s.data.toList
      rw [← hps, List.length_map, len_data] at h1; omega
    have Hps := Lib.hid hps
    clear hps
    have hB1 : ∀ o, Below w.heap.size w (w.alloc o) := fun o => (Below.refl _ _).alloc (Nat.le_refl _) o
    go_enter Tryd.func40, Tryd.ntmps40
    go_wp2_with fail
    refine (cs _ hm).mono ?_
    rintro e w1 ⟨rfl, hw1⟩
    have hc1 := fun k h => cell_row w ps 9 k h
    rw [← hw1] at hc1
    have hz1 : w1.heap.size = w.heap.size + 1 := by rw [hw1]; simp
    have hb1 : Below w.heap.size w w1 := by rw [hw1]; exact hB1 _
    have Hc1 := Lib.hid hc1
    clear hw1 hc1 hB1
    go_wp2
    go_loopw [11] (fun v wr => ∃ k : Nat, k ≤ ps.length ∧ v = .int .i64 k ∧ Hid (∀ i (hi : i < ps.length), i < k → labB ps[i].data.toList = true) ∧ Below w1.heap.size w1 wr) (fun v _ => ps.length - (intOf v).toNat)
    case atStart => exact ⟨0, by omega, rfl, fun i _ hi => by omega, Below.refl _ _⟩
    case round =>
      obtain ⟨k, hk, rfl, Ha, hbr⟩ := hrel
      by_cases hlt : k < ps.length
      · have hc : wr.cell? ⟨w.heap.size, k, none⟩ = some (.string ps[k]) := (hbr.cell (p := ⟨w.heap.size, k, none⟩) (by show w.heap.size < _; omega)).trans (Hc1.out k hlt)
        have hsz := piece_size Hps.out (List.getElem_mem hlt)
        have cl := fun w => Label_any ps[k] (by unfold maxLen; omega) w
        cases hL : labB ps[k].data.toList with
        | true =>
          have Hn := Lib.hid (show ∀ i (hi : i < ps.length), i < k + 1 → labB ps[i].data.toList = true from fun i hi hik => by
            by_cases e : i = k
            · subst e; exact hL
            · exact Ha.out i hi (by omega))
          rw [hL] at cl
          clear hL
          go_wp2_with fail
          refine (cl _).mono ?_
          rintro e w2 ⟨rfl, hb2⟩
          have hbr2 := hbr.trans (hb2.mono hbr.size)
          go_wp2
          go_roundw
          case rel => exact ⟨k + 1, by omega, by go_num, Hn, hbr2⟩
          case measure => simp [intOf]; omega
        | false =>
          have Hn := Lib.hid (sub_no Hps.out k hlt hL)
          rw [hL] at cl
          clear hL
          go_wp2_with fail
          refine (cl _).mono ?_
          rintro e w2 ⟨rfl, hb2⟩
          have hbr2 := hbr.trans (hb2.mono hbr.size)
          go_wp2
          go_ret
          exact ⟨ret_bool Hn.out.symm, hb1.trans (hbr2.mono (by omega))⟩
      · have Hn := Lib.hid (sub_yes Hps.out hlen fun i hi => Ha.out i hi (by omega))
        go_wp2
        go_ret
        exact ⟨ret_bool Hn.out.symm, hb1.trans (hbr.mono (by omega))⟩
  · have H := Lib.hid (show subB s.data.toList = false by unfold subB; rw [len_data, decide_eq_false hlen]; rfl)
    have hl : (253 : Int) < s.size := by omega
    go_enter Tryd.func40, Tryd.ntmps40
    go_wp2
    go_ret
    exact ⟨ret_bool H.out.symm, Below.refl _ _⟩

theorem below_drewN (w : World) (n : Nat) : Below w.heap.size w (w.drewN n) := ⟨rfl, rfl, rfl, Nat.le_refl _, fun _ _ => rfl⟩
theorem mk_data (l : List UInt8) : (⟨l.toArray⟩ : ByteArray).data.toList = l := rfl
theorem size_mk (l : List UInt8) : (⟨l.toArray⟩ : ByteArray).size = l.length := List.size_toArray
theorem cut_len (s : ByteArray) (c : UInt8) (h : (Lib.cut s.data.toList [c]).2.2 = true) : (Lib.cut s.data.toList [c]).1.length ≤ s.size ∧ (Lib.cut s.data.toList [c]).2.1.length ≤ s.size := by
  rcases spl_cut c s.data.toList with ⟨h1, _⟩ | ⟨_, _, h2⟩
  · rw [h1] at h; cases h
  · have := congrArg List.length h2
    rw [len_data, List.length_append, List.length_cons] at this
    omega
end Go.Proofs.YthflpgeonllgdaaDoor.nam
