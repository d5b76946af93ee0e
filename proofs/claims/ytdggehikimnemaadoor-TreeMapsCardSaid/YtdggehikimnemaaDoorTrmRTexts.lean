/- Layer 4: the document's own Texts. -/
import Derived.Deep.Onto
import Derived.Test.YtdggehikimnemaaDoorTrmTexts
namespace Go.Proofs.YtdggehikimnemaaDoor.tre
open Go.RowKit Go.Shelf

set_option maxRecDepth 100000 in
set_option maxHeartbeats 4000000 in
theorem rTexts_any (v : V) (hn : v.list.length ≤ 100000) (S : Nat → Prop) (W : World) (r t : Sl) (hS : ∀ g, S g → g < W.heap.size) (hh : HV S W v r t) :
    Calls Tryd.prog 34 #[.agg #[.int .i64 v.kind, .int .i64 v.int, .string v.text, .slice r.a r.n r.c, .slice t.a t.n t.c]] W fun e w' => ∃ sl : Sl, e = .returned (.tuple #[.slice sl.a sl.n sl.c, .bool (textsV v).2]) ∧
      w'.ownsRow W.heap.size 9 1 (.slice sl.a sl.n sl.c) (textsV v).1.length (strs (textsV v).1) ∧ Below W.heap.size W w' := by
  obtain ⟨i0, hi0, hz0, hz1, hz2⟩ := info_of info_str
  obtain ⟨ra, rn, rc⟩ := r
  obtain rfl : rn = v.list.length := hh.1.len
  have hb1 : ∀ o, Below W.heap.size W (W.alloc o) := fun o => (Below.refl _ _).alloc (Nat.le_refl _) o
  have hbx : ∀ T w1, Below (W.heap.size + 1) (W.alloc (.cells #[.int .i64 v.kind, .int .i64 v.int, .string v.text, .slice ra v.list.length rc, .slice t.a t.n t.c] T)) w1 → w1.heap[W.heap.size]? = some (.cells #[.int .i64 v.kind, .int .i64 v.int, .string v.text, .slice ra v.list.length rc, .slice t.a t.n t.c] T (0, 0)) := fun T w1 hb => (hb.block _ (Nat.lt_succ_self _)).trans (block_new W _)
  have H := Lib.hid (And.intro hb1 (And.intro hh (And.intro hS hbx)))
  clear hb1 hh hS hbx
  by_cases hk0 : v.kind = 0
  · have k0a : (v.kind == 0) = true := by simp [hk0]
    have Ho := Lib.hid (show textsV v = ([], true) from if_pos hk0)
    clear hk0
    go_enter Tryd.func34, Tryd.ntmps34
    go_wp2
    go_ret2
    rw [Ho.out]
    exact ⟨⟨none, 0, 0⟩, rfl, World.ownsRow_nil _ _ _ _, H.out.1 _⟩
  · have k0a : (v.kind == 0) = false := by simp [hk0]
    by_cases hk4 : v.kind = 4
    · have k4a : (v.kind != 4) = false := by simp [hk4]
      have K0 := Lib.hid hk0
      have K4 := Lib.hid hk4
      clear hk0 hk4
      go_enter Tryd.func34, Tryd.ntmps34
      go_wp2
      go_loopg [4, 5] v.list.length (fun gg s4 s5 wr => ∃ (i : Nat) (sl : Sl), i ≤ v.list.length ∧ v.list.length - i ≤ gg ∧ s4 = .slice sl.a sl.n sl.c ∧ s5 = .int .i64 i ∧
        Hid (((v.list.take i).all fun x => x.kind == 3) = true ∧ wr.ownsRow (W.heap.size + 1) 9 1 (.slice sl.a sl.n sl.c) i (strs ((v.list.take i).map V.text)) ∧ Below (W.heap.size + 1) (W.alloc (.cells #[.int .i64 v.kind, .int .i64 v.int, .string v.text, .slice ra v.list.length rc, .slice t.a t.n t.c] 28)) wr))
      case atStart => exact ⟨0, ⟨none, 0, 0⟩, Nat.zero_le _, by omega, rfl, rfl, rfl, World.ownsRow_nil _ _ _ _, Below.refl _ _⟩
      case round =>
        obtain ⟨i, ⟨sa, sn, sc⟩, hil, hgg, rfl, rfl, HH⟩ := hrel
        simp only at HH
        have e1 := H.out.2.2.2 _ wr HH.out.2.2
        have HB := Lib.hid ((H.out.1 _).trans (HH.out.2.2.mono (by omega)))
        have hsz : W.heap.size + 1 ≤ wr.heap.size := by have := HH.out.2.2.size; rw [size_alloc] at this; exact this
        have c3' : wr.cell? ⟨W.heap.size, 3, none⟩ = some (.slice ra v.list.length rc) := by rw [blk_cell e1]; rfl
        by_cases hlt : i < v.list.length
        · have hltz : (i : Int) < (v.list.length : Int) := by omega
          obtain ⟨g1, r', t', ha, hgl, _, hc, _⟩ := (H.out.2.1.later HB.out).1.at hlt
          simp only at ha
          subst ha
          have hsn : strs ((v.list.take (i + 1)).map V.text) = strs ((v.list.take i).map V.text) ++ [.string v.list[i].text] := by
            rw [List.take_succ_eq_append_getElem hlt]; simp only [strs, List.map_append, List.map_cons, List.map_nil]
          have hal : ((v.list.take (i + 1)).all fun x => x.kind == 3) = (v.list[i].kind == 3) := by
            rw [List.take_succ_eq_append_getElem hlt, List.all_append, HH.out.1]; simp
          have hno : ¬ v.list[i].kind = 3 → textsV v = ([], false) := fun h => by
            unfold textsV
            rw [if_neg K0.out, if_neg]
            intro h2
            exact h (by simpa using List.all_eq_true.1 h2.2 _ (List.getElem_mem hlt))
          generalize v.list[i] = x at hc hsn hal hno
          have c0 : wr.cell? ⟨g1, i * 5, none⟩ = some (.int .i64 x.kind) := hc 0 _ rfl
          have c2 : wr.cell? ⟨g1, i * 5 + 2, none⟩ = some (.string x.text) := hc 2 _ rfl
          have Hsn := Lib.hid hsn
          clear hc hsn e1
          by_cases hk : x.kind = 3
          · have Hal := Lib.hid (show ((v.list.take (i + 1)).all fun x => x.kind == 3) = true from hal.trans (by simp [hk]))
            have hkb : (x.kind != 3) = false := by simp [hk]
            have hownA := fun o1 => HH.out.2.1.alloc o1
            have Hnews := Lib.hid (World.news_of_block (w := (wr.alloc (.cells #[.string x.text] 9))) (B := wr.heap.size) (block_new wr (.cells #[.string x.text] 9)))
            clear hal hno hk
            go_wp2_with (at_builtin; refine wpList_append_own_at _ rfl _ _ 48 rfl (W.heap.size + 1) 9 i0 _ 1 16 Tryd.underlying48 hi0 hz0 hz1 hz2 rfl (by decide) _ _ _ rfl (hownA _) _ 1 1 [.string x.text] rfl rfl Hnews.out (by simp [Value.oneCell']) (by unfold maxLen; omega) (by omega) (by simp; omega) ?_; intro v' w1 hown1 hgrow1 _ _; obtain ⟨g', cap', rfl, _, _⟩ := hown1.form (by omega))
            go_roundg (v.list.length - (i + 1))
            case measure => omega
            case rel =>
              refine ⟨i + 1, ⟨some ⟨g', 0, none⟩, i + 1, cap'⟩, by omega, by omega, rfl, by go_num, Hal.out, ?_, ?_⟩
              · rw [Hsn.out]
                exact hown1
              · exact (HH.out.2.2.alloc hsz _).grown hgrow1 (by rw [size_alloc]; omega) (fun k e => (HH.out.2.1.lt k e).1)
          · have Hno := Lib.hid (hno hk)
            have hkb : (x.kind != 3) = true := by simp [hk]
            clear hal hno hk
            go_wp2
            go_ret2
            rw [Hno.out]
            exact ⟨⟨none, 0, 0⟩, rfl, World.ownsRow_nil _ _ _ _, HB.out⟩
        · obtain rfl : i = v.list.length := by omega
          clear e1
          go_wp2
          go_ret2
          have hal := HH.out.1
          have h := HH.out.2.1
          rw [List.take_length] at h hal
          rw [show textsV v = (v.list.map V.text, true) by unfold textsV; rw [if_neg K0.out, if_pos ⟨K4.out, hal⟩]]
          exact ⟨⟨sa, sn, sc⟩, rfl, World.ownsRow.mono (by simpa using h) (by omega), HB.out⟩
    · have k4a : (v.kind != 4) = true := by simp [hk4]
      have Ho := Lib.hid (show textsV v = ([], false) by unfold textsV; rw [if_neg hk0, if_neg (fun h => hk4 h.1)])
      clear hk0 hk4
      go_enter Tryd.func34, Tryd.ntmps34
      go_wp2
      go_ret2
      rw [Ho.out]
      exact ⟨⟨none, 0, 0⟩, rfl, World.ownsRow_nil _ _ _ _, H.out.1 _⟩
end Go.Proofs.YtdggehikimnemaaDoor.tre
