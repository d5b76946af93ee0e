/- Layer 1: the iterator over a text's points, and the functions that go over it: Bad, Valid, Count, Points, Cut. -/
import Derived.LoopIn
import Derived.LoopNIn
import Derived.Maps.AppendAt
import Derived.OwnWalkIn
import Derived.RangeFuncBound
import Derived.RangeFuncBox
import Derived.RangeFuncCalls
import Derived.RangeFuncLeaves
import Derived.RangeFuncNested
import Derived.Shelf.Abstract
import Derived.Shelf.RegionOpen
import Derived.TacticsInMore
import Derived.Test.YteocenjneoclbaaDoorTrmUNext
namespace Go.Proofs.YteocenjneoclbaaDoor.utf
open Go.RowKit Go.Shelf

attribute [local go_sem] Oper.semAt_some

/-- What a round keeps: the table of leads, and the box of the text. -/
def KS (Bs : Nat) (W W' : World) : Prop := Below (1 + 1) W W' ∧ W'.heap[Bs]? = W.heap[Bs]?
theorem KS.t {Bs : Nat} {A B C : World} (h : KS Bs A B) (k : KS Bs B C) : KS Bs A C := ⟨h.1.trans k.1, k.2.trans h.2⟩
theorem KS.b {Bs : Nat} {w : World} (hn : 1 + 1 ≤ w.heap.size) (hB : Bs < w.heap.size) (W : World) (l : Nat) (o o' : Obj) (hl : w.heap.size ≤ l) (h : W.heap[l]? = some o) (h1 : o.isCells = false) (h2 : o.isWalk = false) : KS Bs W (W.putObj l o') := by
  refine ⟨belowK_b hn W l o o' hl h h1 h2, ?_⟩
  exact (grownBy_putObj' W l o').block Bs (by have := (Array.getElem?_eq_some_iff.1 h).1; omega) (fun e => by injection e; omega)
theorem KS.refl (Bs : Nat) (W : World) : KS Bs W W := ⟨Below.refl _ _, rfl⟩
theorem KS.set {Bs : Nat} (W : World) (p : Addr) (v : Value) (h1 : 1 + 1 ≤ p.block) (h2 : Bs ≠ p.block) : KS Bs W (W.setCell p v) := ⟨(Below.refl _ _).setCell h1 _, Below.heap_setCell W p v Bs h2⟩
theorem grown_of_below {a w : World} (h : Below a.heap.size a w) : a.grownBy w none := ⟨h.os, h.tape, h.output, h.size, fun i hi _ => h.block i hi⟩

theorem nxtAt_nat (s : ByteArray) (k : Nat) (h : k < s.size) : nxtAt s (k : Int) = nxt (s.data.toList.drop k) := by
  unfold nxtAt
  rw [if_pos (by omega), Int.toNat_natCast]

set_option maxRecDepth 100000 in
set_option maxRecDepth 100000 in
set_option maxHeartbeats 2000000 in
theorem points1_in (n : Nat) (hn : 1 ≤ n) (l Bs B0 N : Nat) (s : ByteArray) (hs : s.size ≤ maxLen) (hN : N = (sq 0 s.data.toList).length) (J Jx : List (Nat × Int) → World → Prop) (hJ : AbidesFrom B0 J)
    (hY : ∀ pre x W, J pre W → pre.length < N → YieldAt Fence.wide (n - 1) Tryd.prog l #[.int .i64 (x.1 : Int), .int .i64 x.2] W fun e W' =>
      (e = .returned (.bool true) ∧ J (pre ++ [x]) W' ∧ KS Bs W W') ∨ (e = .returned (.bool false) ∧ Jx (pre ++ [x]) W'))
    (W : World) (hBs : W.cell? ⟨Bs, 0, none⟩ = some (.string s)) (hT : Tab W) (h0 : J [] W) :
    CallsIn Fence.wide n Tryd.prog 91 #[.func (.yield l) #[] #[], .pointer (some ⟨Bs, 0, none⟩)] W fun e W' => (∃ v, e = .returned v) ∧
      ((∃ ys, ys = sq 0 s.data.toList ∧ J ys W') ∨ (∃ pre, pre <+: sq 0 s.data.toList ∧ Jx pre W')) := by
  have Hs := Lib.hid hs
  unfold maxLen at hs
  have HJ := Lib.hid hJ
  have HY := Lib.hid hY
  have HN := Lib.hid hN
  clear hJ hY hN
  refine callsIn_of_wp Tryd.func91 rfl trivial ?_ rfl
  simp only [Tryd.ntmps91, List.size_toArray, List.length_cons, List.length_nil, Nat.reduceAdd, Nat.reduceSub, Array.replicate_succ, Array.replicate_zero, List.push_toArray, List.append_toArray, List.nil_append, List.cons_append]
  gi_wp2
  gi_loopw [3] (fun i wr => ∃ (k : Nat) (pre : List (Nat × Int)), i = .int .i64 k ∧ k ≤ s.size ∧ Hid (sq 0 s.data.toList = pre ++ sq k (s.data.toList.drop k)) ∧ J pre wr ∧ Tab wr ∧ wr.cell? ⟨Bs, 0, none⟩ = some (.string s))
    (fun i _ => s.size - (intOf i).toNat)
  case atStart => exact ⟨0, [], rfl, by omega, rfl, h0, hT, hBs⟩
  case round =>
    obtain ⟨k, pre, rfl, hk, hsq, hJs, hTr, hcell⟩ := hrel
    by_cases hlt : k < s.size
    · have hl : (s.data.toList.drop k) ≠ [] := by
        intro e
        have := congrArg List.length e
        rw [List.length_drop, Array.length_toList] at this
        have h2 : s.data.size = s.size := rfl
        simp at this; omega
      have Hat := Lib.hid (nxtAt_nat s k hlt)
      gi_wp2_with fail
      refine ⟨trivial, (callsIn_wide.2 (Next_any s Hs.out (k : Int) _ hTr)).mono ?_⟩
      rintro e W1 ⟨rfl, hb1⟩
      rw [Hat.out]
      have hT1 := hTr.self hb1
      have hBlt : Bs < wr.heap.size := by
        obtain ⟨o, ho, _⟩ := cells_of_cell hcell
        exact (Array.getElem?_eq_some_iff.1 ho).1
      have hcell1 : W1.cell? ⟨Bs, 0, none⟩ = some (.string s) := (hb1.cell (p := ⟨Bs, 0, none⟩) hBlt).trans hcell
      have hJ1 : J pre W1 := HJ.out pre wr W1 none hJs (grown_of_below hb1) (fun r e => by cases e)
      have hle : (nxt (s.data.toList.drop k)).2 ≤ s.size - k := by
        have := nxt_le (s.data.toList.drop k)
        rw [List.length_drop, Array.length_toList] at this
        exact this
      by_cases hm : (nxt (s.data.toList.drop k)).2 = 0
      · have hlast := sq_bad (a := k) hl hm
        have hsq2 : sq 0 s.data.toList = pre ++ [(k, -1)] := by rw [hsq, hlast]
        have Hsq2 := Lib.hid hsq2
        obtain ⟨fn, tmps, assign, body, hy, hR⟩ := HY.out pre (k, -1) W1 hJ1 (by rw [HN.out, hsq2]; simp)
        dsimp only at hy
        have hm0 : (((nxt (s.data.toList.drop k)).2 : Nat) : Int) = 0 := by omega
        rw [hm0]
        clear hlast hsq2 hm hm0
        gi_wp2
        refine hR.mono ?_
        rintro e W3 (⟨rfl, hJ3, hk3⟩ | ⟨rfl, hJx3⟩)
        · gi_wp2
          refine bodyPost_ret (results_none rfl _ _ _) rfl ?_
          exact ⟨⟨_, rfl⟩, .inl ⟨_, Hsq2.out.symm, hJ3⟩⟩
        · gi_wp2
          refine bodyPost_ret (results_none rfl _ _ _) rfl ?_
          exact ⟨⟨_, rfl⟩, .inr ⟨_, by rw [Hsq2.out]; exact List.prefix_refl _, hJx3⟩⟩
      · have hstep := sq_step (a := k) hm
        have hsq2 : sq 0 s.data.toList = (pre ++ [(k, ((nxt (s.data.toList.drop k)).1 : Int))]) ++ sq (k + (nxt (s.data.toList.drop k)).2) (s.data.toList.drop (k + (nxt (s.data.toList.drop k)).2)) := by
          rw [hsq, hstep, List.drop_drop, List.append_assoc]; rfl
        have Hsq2 := Lib.hid hsq2
        obtain ⟨fn, tmps, assign, body, hy, hR⟩ := HY.out pre (k, ((nxt (s.data.toList.drop k)).1 : Int)) W1 hJ1 (by rw [HN.out, hsq2]; simp)
        dsimp only at hy
        have hmz : ((((nxt (s.data.toList.drop k)).2 : Nat) : Int) == 0) = false := beq_eq_false_iff_ne.2 (by omega)
        have hpos : 0 < (nxt (s.data.toList.drop k)).2 := by omega
        have hm4 := nxt_le4 (s.data.toList.drop k)
        clear hstep hsq2 hm
        gi_wp2
        refine hR.mono ?_
        rintro e W3 (⟨rfl, hJ3, hk3⟩ | ⟨rfl, hJx3⟩)
        · have hT3 := hT1.below hk3.1 (by omega)
          have hcell3 : W3.cell? ⟨Bs, 0, none⟩ = some (.string s) := (World.cell?_of_block (w := W1) hk3.2).trans hcell1
          gi_wp2
          go_roundw
          case rel => exact ⟨k + (nxt (s.data.toList.drop k)).2, _, by go_num, by omega, Hsq2.out, hJ3, hT3, hcell3⟩
          case measure => simp [intOf]; omega
        · gi_wp2
          refine bodyPost_ret (results_none rfl _ _ _) rfl ?_
          exact ⟨⟨_, rfl⟩, .inr ⟨_, by rw [Hsq2.out]; exact List.prefix_append _ _, hJx3⟩⟩
    · obtain rfl : k = s.size := by omega
      have hsq2 : sq 0 s.data.toList = pre := by
        rw [hsq, List.drop_of_length_le (by rw [Array.length_toList]; exact Nat.le_refl _), sq_nil, List.append_nil]
      have Hsq2 := Lib.hid hsq2
      clear hsq2
      gi_wp2
      go_end0
      exact ⟨⟨_, rfl⟩, .inl ⟨_, Hsq2.out.symm, hJs⟩⟩

set_option maxRecDepth 100000 in
set_option maxHeartbeats 1000000 in
theorem points_in (n : Nat) (s : ByteArray) (w : World) :
    CallsIn Fence.wide n Tryd.prog 88 #[.string s] w fun e w' => e = .returned (.func (.func 91) #[] #[.pointer (some ⟨w.heap.size, 0, none⟩)]) ∧ w' = w.alloc (.cells #[.string s] 9) := by
  refine callsIn_of_wp Tryd.func88 rfl trivial ?_ rfl
  simp only [Tryd.ntmps88, List.size_toArray, List.length_cons, List.length_nil, Nat.reduceAdd, Nat.reduceSub, Array.replicate_succ, Array.replicate_zero, List.push_toArray, List.append_toArray, List.nil_append, List.cons_append]
  gi_wp2
  go_ret
  exact ⟨rfl, rfl⟩

theorem points_stops (n : Nat) (hn : 1 ≤ n) (Bs N : Nat) (s : ByteArray) (hs : s.size ≤ maxLen) (hN : N = (sq 0 s.data.toList).length) (w : World) (hBs : Bs < w.heap.size) (hc : w.cell? ⟨Bs, 0, none⟩ = some (.string s)) (hT : Tab w) :
    SeqStopsK Fence.wide n Tryd.prog 91 #[.pointer (some ⟨Bs, 0, none⟩)] (fun x : Nat × Int => #[Value.int .i64 (x.1 : Int), Value.int .i64 x.2]) (KS Bs) (fun ys => ys = sq 0 s.data.toList) (fun pre => pre <+: sq 0 s.data.toList) N w :=
  fun l J Jx W hW hJ _ hY h0 => points1_in n hn l Bs _ N s hs hN J Jx hJ hY W ((hW.cell (p := ⟨Bs, 0, none⟩) hBs).trans hc) (hT.self hW) h0

set_option maxRecDepth 100000 in
set_option maxRecDepth 100000 in
set_option maxHeartbeats 2000000 in
theorem Bad_in (n : Nat) (hn : 3 ≤ n) (s : ByteArray) (hs : s.size ≤ maxLen) (w : World) (hT : Tab w) :
    CallsIn Fence.wide n Tryd.prog 83 #[.string s] w fun e W' => e = .returned (.int .i64 (badAt (sq 0 s.data.toList))) ∧ Below w.heap.size w W' := by
  have h1 : 1 ≤ n := by omega
  have Hs := Lib.hid hs
  have hpos := hT.pos
  refine callsIn_of_wp_marks Tryd.func83 rfl trivial ?_ rfl
  simp only [Tryd.ntmps83, List.size_toArray, List.length_cons, List.length_nil, Nat.reduceAdd, Nat.reduceSub, Array.replicate_succ, Array.replicate_zero, List.push_toArray, List.append_toArray, List.nil_append, List.cons_append]
  gi_wp2_with (refine ⟨trivial, ?_⟩; gi_at_call 88; refine (points_in (n - 1) _ _).mono ?_; rintro e w' ⟨rfl, rfl⟩)
  have bR := Boxed.new w 3 (.int .i64 0)
  have bN := Boxed.new (w.alloc (.cells #[.int .i64 0] 3)) 9 (.string s)
  rw [World.size_alloc] at bN
  have hB0 : Below w.heap.size w ((w.alloc (.cells #[.int .i64 0] 3)).alloc (.cells #[.string s] 9)) := ((Below.refl _ w).alloc (Nat.le_refl _) _).alloc (by simp) _
  refine wpIn_rangeFunc_ownG rfl h1 (gf := 91) (lb := #[.pointer (some ⟨w.heap.size + 1, 0, none⟩)]) rfl trivial (enters_of Tryd.func91 (by kernel_rfl) rfl)
    (points_stops (n - 1) (by omega) (w.heap.size + 1) _ s Hs.out rfl _ (by simp) bN.cell (hT.self hB0)) KS.t (KS.b (by simp) (by simp)) (Below.refl _ _) (fun _ => rfl)
    (fun pre W => ((∀ p ∈ pre, p.2 ≠ -1) ∧ W.cell? ⟨w.heap.size, 0, none⟩ = some (.int .i64 0) ∧ W.frozen? ⟨w.heap.size, 0, none⟩ = false) ∧ Below w.heap.size w W)
    (fun c pre W => (c = .ret ∧ ∃ ini last, pre = ini ++ [last] ∧ (∀ p ∈ ini, p.2 ≠ -1) ∧ last.2 = -1 ∧ W.cell? ⟨w.heap.size, 0, none⟩ = some (.int .i64 (last.1 : Int))) ∧ Below w.heap.size w W)
    (OwnFrom.and (Own.from (fun s A B row hs hg hr => ⟨hs.1, cell_kept hs.2.1 hg hr, (frozen_kept hs.2.1 hg hr).trans hs.2.2⟩) _) (ownFrom_below (Nat.le_refl _) (by simp; omega)))
    (fun c => OwnFrom.and (Own.from (fun s A B row hs hg hr => by obtain ⟨hc, ini, last, e1, e2, e3, e4⟩ := hs; exact ⟨hc, ini, last, e1, e2, e3, cell_kept e4 hg hr⟩) _) (ownFrom_below (Nat.le_refl _) (by simp; omega)))
    ⟨⟨by simp, (bR.alloc _).cell, (bR.alloc _).frozen⟩, hB0⟩
    (fun x => { tmps := #[.string s, undef, .pointer (some ⟨w.heap.size, 0, none⟩), .int .i64 (x.1 : Int), .int .i64 x.2, .string s, .func (.func 91) #[] #[.pointer (some ⟨w.heap.size + 1, 0, none⟩)], .int .i64 (x.1 : Int), .int .i64 x.2, undef, undef, undef], defers := [] }) ?assign ?body ?done ?stop
  case assign =>
    intro l x W K hK
    gi_wp2
    exact hK
  case body =>
    rintro l pre x W ⟨⟨hp, hcr, hfr⟩, hB⟩ _
    by_cases hx : x.2 = -1
    · have ht : (x.2 == -1) = true := by rw [hx]; rfl
      have Hx := Lib.hid hx
      clear hx
      gi_wp2
      exact ⟨(KeepsOthers.setCell _ _ _).from _, ⟨rfl, pre, x, rfl, hp, Hx.out, World.cell?_setCell_same' _ _ _ (by rw [hcr]; rfl)⟩, hB.setCell (p := ⟨w.heap.size, 0, none⟩) (Nat.le_refl _) _⟩
    · have ht : (x.2 == -1) = false := beq_eq_false_iff_ne.2 hx
      have Hx := Lib.hid hx
      clear hx
      gi_wp2
      exact ⟨KeepsFrom.refl _ _, KS.refl _ _, ⟨fun p hp' => (List.mem_append.1 hp').elim (hp p) (fun e => by simp at e; subst e; exact Hx.out), hcr, hfr⟩, hB⟩
  case done =>
    rintro D ys W hD rfl ⟨⟨hne, hcr, hfr⟩, hB⟩ hK
    gi_wp2
    have hK' := (KeepsOthers.setCell W ⟨w.heap.size, 0, none⟩ (.int .i64 (-1))).same D _ hK rfl
    refine ⟨by simp, .inl ⟨_, _, rfl, run_takeDeferred hK', ?_⟩⟩
    have hc5 := cell_kept (World.cell?_setCell_same' W ⟨w.heap.size, 0, none⟩ (.int .i64 (-1)) (by rw [hcr]; rfl)) (grownBy_putObj' _ D (.deferred none)) (fun r e => by cases e; exact ⟨_, hK', rfl⟩)
    refine ⟨.int .i64 (-1), ?_, by rw [badAt_none hne], (hB.setCell (p := ⟨w.heap.size, 0, none⟩) (Nat.le_refl _) _).trans (belowK_b (w := w) (Nat.le_refl _) _ D _ _ (by simp at hD; omega) hK' rfl rfl)⟩
    simp [results, Tryd.f83, go_sem, hc5]
  case stop =>
    rintro D c pre W hD ⟨rest, hpre⟩ ⟨⟨rfl, ini, last, e1, e2, e3, hcr⟩, hB⟩ hK
    gi_wp2
    refine ⟨by simp, .inl ⟨_, _, rfl, run_takeDeferred hK, ?_⟩⟩
    have hc5 := cell_kept hcr (grownBy_putObj' _ D (.deferred none)) (fun r e => by cases e; exact ⟨_, hK, rfl⟩)
    refine ⟨.int .i64 (last.1 : Int), ?_, by rw [← hpre, e1, List.append_assoc]; exact congrArg (fun z => Ending.returned (.int .i64 z)) (badAt_some rest e2 e3).symm, hB.trans (belowK_b (w := w) (Nat.le_refl _) W D _ _ (by simp at hD; omega) hK rfl rfl)⟩
    simp [results, Tryd.f83, go_sem, hc5]

theorem Bad_any (s : ByteArray) (hs : s.size ≤ maxLen) (w : World) (hT : Tab w) :
    Calls Tryd.prog 83 #[.string s] w fun e W' => e = .returned (.int .i64 (badAt (sq 0 s.data.toList))) ∧ Below w.heap.size w W' :=
  callsIn_wide.1 (Bad_in 3 (by omega) s hs w hT)

set_option maxRecDepth 100000 in
set_option maxHeartbeats 400000 in
/-- Valid: no place at which none begins. -/
theorem Valid_any (s : ByteArray) (hs : s.size ≤ maxLen) (w : World) (hT : Tab w) :
    Calls Tryd.prog 69 #[.string s] w fun e W' => e = .returned (.bool (okB s.data.toList)) ∧ Below w.heap.size w W' := by
  go_enter Tryd.func69, Tryd.ntmps69
  go_wp2_with fail
  refine (Bad_any s hs _ hT).mono ?_
  rintro e w1 ⟨rfl, hb1⟩
  go_wp2
  go_ret
  exact ⟨rfl, hb1⟩
end Go.Proofs.YteocenjneoclbaaDoor.utf
