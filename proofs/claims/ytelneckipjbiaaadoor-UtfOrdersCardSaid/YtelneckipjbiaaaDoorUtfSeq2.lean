/- Layer 1: Count, Points and Cut go over a text's points. -/
import Derived.Test.YtelneckipjbiaaaDoorUtfSeq
namespace Go.Proofs.YtelneckipjbiaaaDoor.utf
open Go.RowKit Go.Shelf

attribute [local go_sem] Oper.semAt_some

theorem sqF_len (f : Nat) : ∀ (a : Nat) (l : List UInt8), l.length ≤ f → (sqF f a l).length ≤ l.length := by
  induction f with
  | zero => intro a l _; simp [sqF]
  | succ f ih =>
    intro a l h
    unfold sqF
    by_cases e : l = []
    · simp [e]
    · have hp : 0 < l.length := List.length_pos_iff.2 e
      rw [if_neg e]
      by_cases n : (nxt l).2 = 0
      · rw [if_pos n]; simp; omega
      · rw [if_neg n, List.length_cons]
        have := ih (a + (nxt l).2) (l.drop (nxt l).2) (by rw [List.length_drop]; omega)
        rw [List.length_drop] at this
        omega
theorem sq_len (a : Nat) (l : List UInt8) : (sq a l).length ≤ l.length := sqF_len _ _ _ (Nat.le_refl _)
theorem okB_iff (l : List UInt8) : okB l = true ↔ ∀ x ∈ sq 0 l, x.2 ≠ -1 := by
  unfold okB
  rw [beq_iff_eq]
  exact badAt_iff _

def countOf (l : List UInt8) : Int := if okB l = true then ((sq 0 l).length : Int) else -1

theorem sq_bd (s : ByteArray) : (sq 0 s.data.toList).length ≤ s.size := by
  have := sq_len 0 s.data.toList
  rw [Array.length_toList] at this
  exact this

set_option maxHeartbeats 400000 in
theorem Count_no (s : ByteArray) (hs : s.size ≤ maxLen) (hok : okB s.data.toList = false) (w : World) (hT : Tab w) :
    Calls Tryd.prog 22 #[.string s] w fun e W' => e = .returned (.int .i64 (-1)) ∧ Below w.heap.size w W' := by
  go_enter Tryd.func22, Tryd.ntmps22
  go_wp2_with fail
  refine (Valid_any s hs _ hT).mono ?_
  rintro e w1 ⟨rfl, hb1⟩
  rw [hok]
  go_wp2
  go_ret
  exact ⟨rfl, hb1⟩

set_option maxRecDepth 100000 in
set_option maxHeartbeats 2000000 in
theorem Count_yes (n : Nat) (hn : 3 ≤ n) (s : ByteArray) (hs : s.size ≤ maxLen) (hok : okB s.data.toList = true) (w : World) (hT : Tab w) :
    CallsIn Fence.wide n Tryd.prog 22 #[.string s] w fun e W' => e = .returned (.int .i64 ((sq 0 s.data.toList).length : Nat)) ∧ Below w.heap.size w W' := by
  have h1 : 1 ≤ n := by omega
  have Hs := Lib.hid hs
  have hpos := hT.pos
  have hNb : (sq 0 s.data.toList).length ≤ 9223372036854775807 := by have := sq_bd s; unfold maxLen at hs; omega
  refine callsIn_of_wp_marks Tryd.func22 rfl trivial ?_ rfl
  simp only [Tryd.ntmps22, List.size_toArray, List.length_cons, List.length_nil, Nat.reduceAdd, Nat.reduceSub, Array.replicate_succ, Array.replicate_zero, List.push_toArray, List.append_toArray, List.nil_append, List.cons_append]
  gi_wp2_with (refine ⟨trivial, ?_⟩; gi_at_call 21; refine (callsIn_wide.2 (Valid_any s Hs.out _ hT)).mono ?_; rintro e w1 ⟨rfl, hb1⟩)
  gi_wp2_with (refine ⟨trivial, ?_⟩; gi_at_call 27; refine (points_in (n - 1) _ _).mono ?_; rintro e w' ⟨rfl, rfl⟩)
  gi_wp2
  have bR := Boxed.new w1 3 (.int .i64 0)
  have bN := Boxed.new (w1.alloc (.cells #[.int .i64 0] 3)) 9 (.string s)
  rw [World.size_alloc] at bN
  have hsz := hb1.size
  have hB0 : Below w1.heap.size w1 ((w1.alloc (.cells #[.int .i64 0] 3)).alloc (.cells #[.string s] 9)) := ((Below.refl _ w1).alloc (Nat.le_refl _) _).alloc (by simp) _
  refine wpIn_rangeFunc_ownG rfl h1 (gf := 29) (lb := #[.pointer (some ⟨w1.heap.size + 1, 0, none⟩)]) rfl trivial (enters_of Tryd.func29 (by kernel_rfl) rfl)
    (points_stops (n - 1) (by omega) (w1.heap.size + 1) _ s Hs.out rfl _ (by simp) bN.cell ((hT.self hb1).self hB0)) KS.t (KS.b (by simp) (by simp)) (Below.refl _ _) (fun _ => rfl)
    (fun pre W => (W.cell? ⟨w1.heap.size, 0, none⟩ = some (.int .i64 (pre.length : Nat)) ∧ W.frozen? ⟨w1.heap.size, 0, none⟩ = false) ∧ Below w1.heap.size w1 W)
    (fun _ _ _ => False)
    (OwnFrom.and (Own.from (fun s A B row hs hg hr => ⟨cell_kept hs.1 hg hr, (frozen_kept hs.1 hg hr).trans hs.2⟩) _) (ownFrom_below (Nat.le_refl _) (by simp; omega)))
    (fun _ _ _ _ _ hs _ _ => hs)
    ⟨⟨(bR.alloc _).cell, (bR.alloc _).frozen⟩, hB0⟩
    (fun x => { tmps := #[.string s, undef, .int .i64 0, .pointer (some ⟨w1.heap.size, 0, none⟩), .string s, .bool true, .bool false, .string s, .func (.func 29) #[] #[.pointer (some ⟨w1.heap.size + 1, 0, none⟩)], .int .i64 (x.1 : Int), .int .i64 x.2, undef, undef, undef], defers := [] }) ?assign ?body ?done ?stop
  case assign =>
    intro l x W K hK
    gi_wp2
    simpa using hK
  case body =>
    rintro l pre x W ⟨⟨hcr, hfr⟩, hB⟩ hlt
    have hpl : (pre.length : Int) < 9223372036854775807 := by omega
    gi_wp2
    exact ⟨(KeepsOthers.setCell _ _ _).from _, KS.set _ _ _ (show 1 ≤ w1.heap.size by omega) (by simp), ⟨by rw [List.length_append]; exact World.cell?_setCell_same' _ _ _ (by rw [hcr]; rfl), by rw [World.frozen?_setCell]; exact hfr⟩, hB.setCell (p := ⟨w1.heap.size, 0, none⟩) (Nat.le_refl _) _⟩
  case done =>
    rintro D ys W hD rfl ⟨⟨hcr, hfr⟩, hB⟩ hK
    gi_wp2
    refine ⟨by simp, .inl ⟨_, _, rfl, run_takeDeferred hK, ?_⟩⟩
    exact ⟨_, results_tmp rfl _ _ _, rfl, hb1.trans ((hB.trans (belowK_b (w := w1) (Nat.le_refl _) W D _ _ (by simp at hD; omega) hK rfl rfl)).mono hsz)⟩
  case stop =>
    rintro D c pre W _ _ h _
    exact h.elim

/-- Count: how many points a valid text has; -1 of another. -/
theorem Count_any (s : ByteArray) (hs : s.size ≤ maxLen) (w : World) (hT : Tab w) :
    Calls Tryd.prog 22 #[.string s] w fun e W' => e = .returned (.int .i64 (countOf s.data.toList)) ∧ Below w.heap.size w W' := by
  unfold countOf
  cases hok : okB s.data.toList
  · exact Count_no s hs hok w hT
  · exact callsIn_wide.1 (Count_yes 3 (by omega) s hs hok w hT)

theorem info_int : (Tryd.prog.info? 3).map (fun i => (i.zero, i.size, i.bytes)) = some (some (.int .i64 0), 1, 8) := by kernel_rfl
/-- The points of a text, in order. -/
def sndL (xs : List (Nat × Int)) : List Int := xs.map (·.2)
theorem sndL_snoc (xs : List (Nat × Int)) (x : Nat × Int) : sndL (xs ++ [x]) = sndL xs ++ [x.2] := by simp [sndL]
theorem sndL_len (xs : List (Nat × Int)) : (sndL xs).length = xs.length := by simp [sndL]
def ptsOf (l : List UInt8) : List Int := sndL (sq 0 l)

set_option maxHeartbeats 400000 in
theorem Points_no (s : ByteArray) (hs : s.size ≤ maxLen) (hok : okB s.data.toList = false) (w : World) (hT : Tab w) :
    Calls Tryd.prog 16 #[.string s] w fun e W' => e = .returned (.tuple #[.slice none 0 0, .bool false]) ∧ Below w.heap.size w W' := by
  go_enter Tryd.func16, Tryd.ntmps16
  go_wp2_with fail
  refine (Valid_any s hs _ hT).mono ?_
  rintro e w1 ⟨rfl, hb1⟩
  rw [hok]
  go_wp2
  go_ret2
  exact ⟨rfl, hb1⟩

theorem own_mono {w : World} {base base' : Nat} {e : TypeId} {size : Nat} {v : Value} {n : Nat} {xs : List Value} (h : w.ownsRow base e size v n xs) (hb : base' ≤ base) : w.ownsRow base' e size v n xs := by
  obtain ⟨h1, h2⟩ := h
  refine ⟨h1, ?_⟩
  rcases h2 with h2 | ⟨g, cap, cur, hv, hg, hh, r⟩
  · exact Or.inl h2
  · exact Or.inr ⟨g, cap, cur, hv, Nat.le_trans hb hg, hh, r⟩

set_option maxRecDepth 100000 in
set_option maxHeartbeats 2000000 in
theorem Points_yes (n : Nat) (hn : 3 ≤ n) (s : ByteArray) (hs : s.size ≤ 1000) (hok : okB s.data.toList = true) (w : World) (hT : Tab w) :
    CallsIn Fence.wide n Tryd.prog 16 #[.string s] w fun e W' => ∃ v, e = .returned (.tuple #[v, .bool true]) ∧ W'.ownsRow w.heap.size 3 1 v (ptsOf s.data.toList).length ((ptsOf s.data.toList).map (Value.int .i64)) ∧ Below w.heap.size w W' := by
  have h1 : 1 ≤ n := by omega
  have Hs : Hid (s.size ≤ maxLen) := by show s.size ≤ maxLen; unfold maxLen; omega
  have hpos := hT.pos
  have hNb : (sq 0 s.data.toList).length ≤ 1000 := by have := sq_bd s; omega
  obtain ⟨i0, hi, hz0, hz1, hz2⟩ := info_parts info_int
  refine callsIn_of_wp_marks Tryd.func16 rfl trivial ?_ rfl
  simp only [Tryd.ntmps16, List.size_toArray, List.length_cons, List.length_nil, Nat.reduceAdd, Nat.reduceSub, Array.replicate_succ, Array.replicate_zero, List.push_toArray, List.append_toArray, List.nil_append, List.cons_append]
  gi_wp2_with (refine ⟨trivial, ?_⟩; gi_at_call 21; refine (callsIn_wide.2 (Valid_any s Hs.out _ hT)).mono ?_; rintro e w1 ⟨rfl, hb1⟩)
  gi_wp2_with (refine ⟨trivial, ?_⟩; gi_at_call 27; refine (points_in (n - 1) _ _).mono ?_; rintro e w' ⟨rfl, rfl⟩)
  gi_wp2
  have bO := Boxed.new w1 32 (.slice none 0 0)
  have bN := Boxed.new (w1.alloc (.cells #[.slice none 0 0] 32)) 9 (.string s)
  rw [World.size_alloc] at bN
  have hsz := hb1.size
  have hB0 : Below w1.heap.size w1 ((w1.alloc (.cells #[.slice none 0 0] 32)).alloc (.cells #[.string s] 9)) := ((Below.refl _ w1).alloc (Nat.le_refl _) _).alloc (by simp) _
  refine wpIn_rangeFunc_ownG rfl h1 (gf := 29) (lb := #[.pointer (some ⟨w1.heap.size + 1, 0, none⟩)]) rfl trivial (enters_of Tryd.func29 (by kernel_rfl) rfl)
    (points_stops (n - 1) (by omega) (w1.heap.size + 1) _ s Hs.out rfl _ (by simp) bN.cell ((hT.self hb1).self hB0)) KS.t (KS.b (by simp) (by simp)) (Below.refl _ _) (fun _ => rfl)
    (fun pre W => (∃ v, Boxed W w1.heap.size 32 v ∧ W.ownsRow w1.heap.size 3 1 v (sndL pre).length ((sndL pre).map (Value.int .i64)) ∧ True) ∧ Boxed W (w1.heap.size + 1) 9 (.string s) ∧ Below w1.heap.size w1 W)
    (fun _ _ _ => False)
    (OwnFrom.and (Own.from (holdsRow_own w1.heap.size w1.heap.size 32 3 1 (fun (pre : List (Nat × Int)) => (sndL pre).length) (fun pre => (sndL pre).map (Value.int .i64)) (fun _ _ => True)) _) (OwnFrom.and (Own.from (boxed_own _ _ (fun _ => .string s)) _) (ownFrom_below (Nat.le_refl _) (by simp; omega))))
    (fun _ _ _ _ _ hs _ _ => hs)
    ⟨⟨_, bO.alloc _, World.ownsRow_nil _ _ _ _, trivial⟩, bN, hB0⟩
    (fun x => { tmps := #[.string s, undef, .slice none 0 0, .bool false, .pointer (some ⟨w1.heap.size, 0, none⟩), undef, .int .i64 x.2, .string s, .bool true, .bool false, .string s, .func (.func 29) #[] #[.pointer (some ⟨w1.heap.size + 1, 0, none⟩)], .int .i64 (x.1 : Int), .int .i64 x.2, undef, undef, undef, undef, undef], defers := [] }) ?assign ?body ?done ?stop
  case assign =>
    intro l x W K hK
    gi_wp2
    exact hK
  case body =>
    rintro l pre x W ⟨⟨v, hv, hrow, _⟩, hbx, hB⟩ hlt
    have hc := hv.cell
    have hpl : (sndL pre).length < 1000 := by rw [sndL_len]; omega
    have hnr := hbx.not_row (by decide) hrow
    gi_wp2_with (gi_at_builtin; refine wpListIn_append_own _ rfl _ _ 32 rfl w1.heap.size 3 i0 (.int .i64 0) 1 8 Tryd.underlying32 hi hz0 hz1 hz2 rfl (by decide) _ _ _ rfl (hrow.alloc _) ⟨W.heap.size, 0, none⟩ 1 1 [.int .i64 x.2] rfl rfl (cell_one_new _ _ _) (by simp [Value.oneCell']) (by unfold maxLen; omega) (by omega) (by have := hB.size; simp; omega) ?_; intro v' w2 hown' hgrow _; obtain ⟨g', cap', rfl⟩ := ownsRow_succ hown'; obtain ⟨hv1, hv2, hr2, hk2, hb2⟩ := hv.appended (by decide) hrow hB.size (Nat.le_refl _) hown' hgrow; have hc1 := hv1.cell; have hf1 := hv1.frozen)
    have hbx2 := ((hbx.alloc _).kept hgrow hnr).other (show w1.heap.size + 1 ≠ w1.heap.size by omega) (.slice (some ⟨g', 0, none⟩) ((sndL pre).length + 1) cap')
    exact ⟨hk2.from _, ⟨hb2.mono (show 1 ≤ w1.heap.size by omega), hbx2.trans (Eq.symm hbx)⟩, ⟨_, hv2, by rw [sndL_snoc, List.length_append, List.map_append]; exact hr2, trivial⟩, hbx2, hB.trans hb2⟩
  case done =>
    rintro D ys W hD rfl ⟨⟨v, hv, hrow, _⟩, hbx, hB⟩ hK
    have hc := hv.cell
    gi_wp2
    refine ⟨by simp, .inl ⟨_, _, rfl, run_takeDeferred hK, ?_⟩⟩
    refine ⟨_, results_tmp2 rfl _ _ _, v, rfl, ?_, hb1.trans ((hB.trans (belowK_b (w := w1) (Nat.le_refl _) W D _ _ (by simp at hD; omega) hK rfl rfl)).mono hsz)⟩
    exact own_mono (ownsRow_putObj hrow _ hK rfl) hsz
  case stop =>
    rintro D c pre W _ _ h _
    exact h.elim
end Go.Proofs.YtelneckipjbiaaaDoor.utf
