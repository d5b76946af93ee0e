/- Layer 1: the contracts of the document's own Points, Bad and Text, and of the comparing of two rows. Layer 4: the document's own Valid (layer 1). -/
import Derived.Maps.AppendAt
import Derived.Test.YteocenjneoclbaaDoorTrmUPure
import Derived.Test.YteocenjneoclbaaDoorTrmURefN
import Derived.Test.YteocenjneoclbaaDoorTrmUSeq
namespace Go.Proofs.YteocenjneoclbaaDoor.utf
open Go.RowKit

theorem cells2 {w : World} {a b : Value} (W1 : World) (h : W1 = w.alloc (.cells #[a, b] 99)) : W1.cell? ⟨w.heap.size, 0, none⟩ = some a ∧ W1.cell? ⟨w.heap.size, 1, none⟩ = some b := by
  subst h
  have := cells_of2 (heap_alloc_new w (.cells #[a, b] 99))
  exact ⟨this.1, this.2.1⟩

theorem own_below {wr w3 : World} {base : Nat} {e : TypeId} {size : Nat} {v : Value} {n : Nat} {xs : List Value} (h : wr.ownsRow base e size v n xs) (hb : Below wr.heap.size wr w3) : w3.ownsRow base e size v n xs := by
  obtain ⟨h1, h2⟩ := h
  refine ⟨h1, ?_⟩
  rcases h2 with h2 | ⟨g, cap, cur, hv, hg, hh, r⟩
  · exact Or.inl h2
  · exact Or.inr ⟨g, cap, cur, hv, hg, (hb.block g (Array.getElem?_eq_some_iff.1 hh).1).trans hh, r⟩

theorem own_ge {w : World} {base : Nat} {e : TypeId} {size : Nat} {v : Value} {n : Nat} {xs : List Value} (h : w.ownsRow base e size v n xs) : ∀ k, v.ownBlock = some k → base ≤ k := by
  intro k hk
  rcases h.2 with ⟨rfl, _⟩ | ⟨g, cap, cur, rfl, hb, _, _⟩
  · simp [Value.ownBlock] at hk
  · obtain rfl : g = k := by simpa [Value.ownBlock] using hk
    exact hb
theorem own_lt {w : World} {base : Nat} {e : TypeId} {size : Nat} {v : Value} {n : Nat} {xs : List Value} (h : w.ownsRow base e size v n xs) : ∀ k, v.ownBlock = some k → k < w.heap.size := by
  intro k hk
  rcases h.2 with ⟨rfl, _⟩ | ⟨g, cap, cur, rfl, _, hh, _⟩
  · simp [Value.ownBlock] at hk
  · obtain rfl : g = k := by simpa [Value.ownBlock] using hk
    exact (Array.getElem?_eq_some_iff.1 hh).1
/-- What a row of points comes to: nothing, false of a text that is not valid; else all of them, in memory of the call's own. -/
def sndL (xs : List (Nat × Int)) : List Int := xs.map (·.2)
theorem sndL_snoc (xs : List (Nat × Int)) (x : Nat × Int) : sndL (xs ++ [x]) = sndL xs ++ [x.2] := by simp [sndL]
theorem sndL_len (xs : List (Nat × Int)) : (sndL xs).length = xs.length := by simp [sndL]
def ptsOf (l : List UInt8) : List Int := sndL (sq 0 l)
theorem info_int : (Tryd.prog.info? 3).map (fun i => (i.zero, i.size, i.bytes)) = some (some (.int .i64 0), 1, 8) := by kernel_rfl
def PtsPost (w : World) (l : List UInt8) (e : Ending) (w' : World) : Prop :=
  ((okB l = false ∧ e = .returned (.tuple #[.slice none 0 0, .bool false])) ∨
    (okB l = true ∧ ∃ v, e = .returned (.tuple #[v, .bool true]) ∧ w'.ownsRow w.heap.size 3 1 v (ptsOf l).length ((ptsOf l).map (Value.int .i64)))) ∧ Below w.heap.size w w'

set_option maxRecDepth 100000 in
set_option maxRecDepth 100000 in
set_option maxHeartbeats 4000000 in
/-- The document's Points: the same. -/
theorem refPoints_any (x : ByteArray) (hx : x.size ≤ 1000) (w : World) :
    Calls Tryd.prog 85 #[.string x] w (PtsPost w x.data.toList) := by
  have Hx : Hid (x.size ≤ maxLen) := by show x.size ≤ maxLen; unfold maxLen; omega
  obtain ⟨i0, hi, hz0, hz1, hz2⟩ := info_parts info_int
  go_enter Tryd.func85, Tryd.ntmps85
  go_wp2_with fail
  go_loopw [4, 5] (fun v a wr => ∃ (sv : Value) (k : Nat) (pre : List (Nat × Int)), sv = v ∧ a = .int .i64 k ∧ k ≤ x.size ∧ pre.length ≤ k ∧ Hid (sq 0 x.data.toList = pre ++ sq k (x.data.toList.drop k)) ∧ Hid (∀ y ∈ pre, y.2 ≠ -1) ∧ wr.ownsRow w.heap.size 3 1 sv (sndL pre).length ((sndL pre).map (Value.int .i64)) ∧ Below w.heap.size w wr)
    (fun _ a _ => x.size - (intOf a).toNat)
  case atStart => exact ⟨_, 0, [], rfl, rfl, by omega, by simp, rfl, (fun y hy => by cases hy), World.ownsRow_nil _ _ _ _, Below.refl _ _⟩
  case round =>
    obtain ⟨sv, k, pre, rfl, rfl, hk, hpl, hsq, hne, hrow, hB⟩ := hrel
    by_cases hlt : k < x.size
    · have Hat := Lib.hid (nxtAt_nat x k hlt)
      have hdl : (x.data.toList.drop k).length = x.size - k := by rw [List.length_drop, Array.length_toList]; rfl
      have hle : (nxt (x.data.toList.drop k)).2 ≤ x.size - k := by rw [← hdl]; exact nxt_le _
      have hm4 := nxt_le4 (x.data.toList.drop k)
      go_wp2_with fail
      refine (refNext_any x Hx.out (k : Int) _).mono ?_
      rintro e w3 ⟨rfl, hb3⟩
      rw [Hat.out]
      have hB3 := hB.trans (hb3.mono hB.size)
      have hrow3 := own_below hrow hb3
      have hB4 := fun o => hB3.alloc hB3.size o
      unfold found
      by_cases hm : (nxt (x.data.toList.drop k)).2 = 0
      · have hl : x.data.toList.drop k ≠ [] := fun e => by rw [e] at hdl; simp at hdl; omega
        have hsq2 : sq 0 x.data.toList = pre ++ (k, -1) :: [] := by rw [hsq, sq_bad (a := k) hl hm]
        have G1 : Hid (okB x.data.toList = false) := by
          show _ = _
          unfold okB
          rw [hsq2, badAt_some [] hne rfl]
          rw [beq_eq_false_iff_ne]
          show ((k : Nat) : Int) ≠ -1
          omega
        have hm0 : (((nxt (x.data.toList.drop k)).2 : Nat) : Int) = 0 := by omega
        rw [hm0]
        clear hm hm0 hsq2 hl
        go_wp2
        go_ret2
        exact ⟨.inl ⟨G1.out, rfl⟩, hB4 _⟩
      · have hstep := sq_step (a := k) hm
        have hsq2 : sq 0 x.data.toList = (pre ++ [(k, ((nxt (x.data.toList.drop k)).1 : Int))]) ++ sq (k + (nxt (x.data.toList.drop k)).2) (x.data.toList.drop (k + (nxt (x.data.toList.drop k)).2)) := by
          rw [hsq, hstep, List.drop_drop, List.append_assoc]; rfl
        have hne2 : ∀ y ∈ pre ++ [(k, ((nxt (x.data.toList.drop k)).1 : Int))], y.2 ≠ -1 := fun y hy =>
          (List.mem_append.1 hy).elim (hne y) (fun e => by simp at e; subst e; show ((nxt (x.data.toList.drop k)).1 : Int) ≠ -1; omega)
        have Hsq2 := Lib.hid hsq2
        have Hne2 := Lib.hid hne2
        have hz : ((((nxt (x.data.toList.drop k)).2 : Nat) : Int) == 0) = false := beq_eq_false_iff_ne.2 (by omega)
        have hpos : 0 < (nxt (x.data.toList.drop k)).2 := by omega
        have hsl : (sndL pre).length ≤ 1000 := by rw [sndL_len]; omega
        clear hsq2 hne2 hstep hm
        generalize hq : (nxt (x.data.toList.drop k)).1 = q at *
        generalize hmm : (nxt (x.data.toList.drop k)).2 = m at *
        clear hq hmm
        have hB5 := fun o o' => (hB4 o).alloc (Nat.le_trans hB3.size (by simp)) o'
        have hge := own_ge hrow3
        have Hbk : Hid (((w3.alloc (.cells #[.int .i64 (q : Nat), .int .i64 (m : Nat)] 99)).alloc (.cells #[.int .i64 (q : Nat)] 3)).heap[w3.heap.size]? = some (.cells #[.int .i64 (q : Nat), .int .i64 (m : Nat)] 99 (0, 0))) := by
          show _ = _
          rw [Below.heap_alloc _ _ _ (by simp)]
          exact heap_alloc_new w3 _
        have hc1 : ∀ j u, [Value.int .i64 (q : Nat)][j]? = some u → ((w3.alloc (.cells #[.int .i64 (q : Nat), .int .i64 (m : Nat)] 99)).alloc (.cells #[.int .i64 (q : Nat)] 3)).cell? ((⟨w3.heap.size + 1, 0, none⟩ : Addr).add j) = some u := by
          have := cell_one_new (w3.alloc (.cells #[.int .i64 (q : Nat), .int .i64 (m : Nat)] 99)) (.int .i64 (q : Nat)) 3
          rw [World.size_alloc] at this
          exact this
        have Hc1 := Lib.hid hc1
        clear hc1
        go_wp2_with (at_builtin; refine wpList_append_own _ rfl _ _ 91 rfl w.heap.size 3 i0 (.int .i64 0) 1 8 Tryd.underlying91 hi hz0 hz1 hz2 rfl (by decide) sv _ _ rfl ((hrow3.alloc _).alloc _) ⟨w3.heap.size + 1, 0, none⟩ 1 1 [.int .i64 (q : Nat)] rfl rfl Hc1.out (by simp [Value.oneCell']) (by unfold maxLen; omega) (by omega) (by have := hB3.size; simp; omega) ?_; intro v' w4 hown' hgrow _; obtain ⟨c0, c1, _, _⟩ := cells_of2 ((hgrow.block w3.heap.size (by simp; omega) (fun e => by have := own_lt hrow3 _ e.symm; omega)).trans Hbk.out))
        have hgr : Below w.heap.size w w4 := (hB5 _ _).grown hgrow (by have := hB3.size; simp; omega) hge
        go_roundw
        case rel => exact ⟨v', k + m, _, rfl, by go_num, by omega, by rw [List.length_append]; simp; omega, Hsq2.out, Hne2.out, by rw [sndL_snoc, List.length_append, List.map_append]; exact hown', hgr⟩
        case measure => simp [intOf]; omega
    · obtain rfl : k = x.size := by omega
      have hsq2 : sq 0 x.data.toList = pre := by
        rw [hsq, List.drop_of_length_le (by rw [Array.length_toList]; exact Nat.le_refl _), sq_nil, List.append_nil]
      have G1 : Hid (okB x.data.toList = true) := okB_of (by rw [hsq2]; exact hne)
      have G2 : Hid (ptsOf x.data.toList = sndL pre) := by show _ = _; unfold ptsOf; rw [hsq2]
      clear hsq2
      go_wp2
      go_ret2
      exact ⟨.inr ⟨G1.out, _, rfl, by rw [G2.out]; exact hrow⟩, hB⟩
end Go.Proofs.YteocenjneoclbaaDoor.utf
namespace Go.Proofs.YteocenjneoclbaaDoor.utf
open Go.RowKit

theorem refValid_any (x : ByteArray) (hx : x.size ≤ 1000) (w : World) :
    Calls Tryd.prog 71 #[.string x] w fun e w' => e = .returned (.bool (okB x.data.toList)) ∧ Below w.heap.size w w' := by
  have hc := refPoints_any x hx w
  cases ho : okB x.data.toList with
  | false =>
    go_enter Tryd.func71, Tryd.ntmps71
    go_wp2_with fail
    refine hc.mono ?_
    rintro e w1 ⟨⟨_, rfl⟩ | ⟨h, _⟩, hb⟩
    · go_wp2
      go_ret
      exact ⟨rfl, hb⟩
    · rw [ho] at h; cases h
  | true =>
    go_enter Tryd.func71, Tryd.ntmps71
    go_wp2_with fail
    refine hc.mono ?_
    rintro e w1 ⟨⟨h, _⟩ | ⟨_, v, rfl, _⟩, hb⟩
    · rw [ho] at h; cases h
    · go_wp2
      go_ret
      exact ⟨rfl, hb⟩
end Go.Proofs.YteocenjneoclbaaDoor.utf
