/- Layer 1: Cut: the bytes of the first points of a text. -/
import Derived.Test.YtelneckipjbiaaaDoorUtfSeq2
import Derived.Test.YtelneckipjbiaaaDoorUtfClone
namespace Go.Proofs.YtelneckipjbiaaaDoor.utf
open Go.RowKit Go.Shelf

attribute [local go_sem] Oper.semAt_some

theorem sqF_place (f : Nat) : ∀ (a : Nat) (l : List UInt8), l.length ≤ f → ∀ x ∈ sqF f a l, x.1 < a + l.length := by
  induction f with
  | zero => intro a l _ x hx; simp [sqF] at hx
  | succ f ih =>
    intro a l h x hx
    unfold sqF at hx
    by_cases e : l = []
    · simp [e] at hx
    · have hp : 0 < l.length := List.length_pos_iff.2 e
      rw [if_neg e] at hx
      by_cases n : (nxt l).2 = 0
      · rw [if_pos n] at hx
        simp at hx
        subst hx
        show a < _
        omega
      · rw [if_neg n] at hx
        rcases List.mem_cons.1 hx with rfl | hx
        · show a < _
          omega
        · have := ih _ _ (by rw [List.length_drop]; omega) x hx
          rw [List.length_drop] at this
          have := nxt_le l
          omega
theorem sq_place (a : Nat) (l : List UInt8) : ∀ x ∈ sq a l, x.1 < a + l.length := sqF_place _ _ _ (Nat.le_refl _)

set_option maxHeartbeats 400000 in
theorem Cut_no (s : ByteArray) (hs : s.size ≤ maxLen) (n : Int) (hok : okB s.data.toList = false) (w : World) (hT : Tab w) :
    Calls Tryd.prog 20 #[.string s, .int .i64 n] w fun e W' => e = .returned (.tuple #[.string ⟨#[]⟩, .bool false]) ∧ Below w.heap.size w W' := by
  go_enter Tryd.func20, Tryd.ntmps20
  go_wp2
  go_step3
  go_wp2_with fail
  refine (Valid_any s hs _ hT).mono ?_
  rintro e w1 ⟨rfl, hb1⟩
  rw [hok]
  go_wp2
  try rw [Exit.noGoto_ret]
  go_ret2
  exact ⟨rfl, hb1⟩

set_option maxRecDepth 100000 in
set_option maxHeartbeats 2000000 in
theorem Cut_yes (d : Nat) (hd : 3 ≤ d) (s : ByteArray) (hs : s.size ≤ 1000) (n : Int) (hn : n ≤ 9223372036854775807) (hok : okB s.data.toList = true) (w : World) (hT : Tab w) :
    CallsIn Fence.wide d Tryd.prog 20 #[.string s, .int .i64 n] w fun e W' => e = .returned (.tuple #[.string (s.extract 0 (cutAt n.toNat s.size (sq 0 s.data.toList))), .bool true]) ∧ Below w.heap.size w W' := by
  have h1 : 1 ≤ d := by omega
  have Hs : Hid (s.size ≤ maxLen) := by show s.size ≤ maxLen; unfold maxLen; omega
  have hpos := hT.pos
  have hNb : (sq 0 s.data.toList).length ≤ 1000 := by have := sq_bd s; omega
  refine callsIn_of_wp_marks Tryd.func20 rfl trivial ?_ rfl
  simp only [Tryd.ntmps20, List.size_toArray, List.length_cons, List.length_nil, Nat.reduceAdd, Nat.reduceSub, Array.replicate_succ, Array.replicate_zero, List.push_toArray, List.append_toArray, List.nil_append, List.cons_append]
  obtain ⟨m, hm⟩ : ∃ m, n.toNat = m := ⟨_, rfl⟩
  have Hmx : Hid (max n 0 = (m : Int)) := by show max n 0 = (m : Int); omega
  have hmb : m ≤ 9223372036854775807 := by omega
  rw [hm]
  clear hm
  refine wpIn_wide.2 ?_
  go_wp2
  go_step3
  go_wp2_with fail
  refine (Valid_any s Hs.out _ hT).mono ?_
  rintro e w1 ⟨rfl, hb1⟩
  rw [hok]
  go_wp2
  go_step3
  go_wp2_with fail
  refine (callsIn_wide.1 (points_in (d - 1) _ _)).mono ?_
  rintro e w' ⟨rfl, rfl⟩
  go_wp2
  rw [Hmx.out]
  have bE := Boxed.new w1 3 (.int .i64 (s.size : Nat))
  have bL := Boxed.new (w1.alloc (.cells #[.int .i64 (s.size : Nat)] 3)) 3 (.int .i64 (m : Nat))
  have bN := Boxed.new ((w1.alloc (.cells #[.int .i64 (s.size : Nat)] 3)).alloc (.cells #[.int .i64 (m : Nat)] 3)) 9 (.string s)
  rw [World.size_alloc] at bL
  rw [World.size_alloc, World.size_alloc] at bN
  have hsz := hb1.size
  have hB0 : Below w1.heap.size w1 (((w1.alloc (.cells #[.int .i64 (s.size : Nat)] 3)).alloc (.cells #[.int .i64 (m : Nat)] 3)).alloc (.cells #[.string s] 9)) := (((Below.refl _ w1).alloc (Nat.le_refl _) _).alloc (by simp) _).alloc (by simp; omega) _
  refine (wpIn_wide (n := d)).1 ?_
  refine wpIn_rangeFunc_ownG (n := d) rfl h1 (gf := 29) (lb := #[.pointer (some ⟨w1.heap.size + 1 + 1, 0, none⟩)]) rfl trivial (enters_of Tryd.func29 (by kernel_rfl) rfl)
    (points_stops (d - 1) (by omega) (w1.heap.size + 1 + 1) _ s Hs.out rfl _ (by simp) bN.cell ((hT.self hb1).self hB0)) KS.t (KS.b (by simp) (by simp)) (Below.refl _ _) (fun _ => rfl)
    (fun pre W => ((W.cell? ⟨w1.heap.size, 0, none⟩ = some (.int .i64 (s.size : Nat)) ∧ W.frozen? ⟨w1.heap.size, 0, none⟩ = false) ∧ (W.cell? ⟨w1.heap.size + 1, 0, none⟩ = some (.int .i64 ((m : Int) - (pre.length : Nat))) ∧ W.frozen? ⟨w1.heap.size + 1, 0, none⟩ = false) ∧ pre.length ≤ m) ∧ Below w1.heap.size w1 W)
    (fun c pre W => (c = .exit 0 ∧ ∃ ini last, pre = ini ++ [last] ∧ ini.length = m ∧ W.cell? ⟨w1.heap.size, 0, none⟩ = some (.int .i64 (last.1 : Int))) ∧ Below w1.heap.size w1 W)
    (OwnFrom.and (Own.from (fun s A B row hs hg hr => ⟨⟨cell_kept hs.1.1 hg hr, (frozen_kept hs.1.1 hg hr).trans hs.1.2⟩, ⟨cell_kept hs.2.1.1 hg hr, (frozen_kept hs.2.1.1 hg hr).trans hs.2.1.2⟩, hs.2.2⟩) _) (ownFrom_below (Nat.le_refl _) (by simp; omega)))
    (fun c => OwnFrom.and (Own.from (fun s A B row hs hg hr => by obtain ⟨hc, ini, last, e1, e2, e4⟩ := hs; exact ⟨hc, ini, last, e1, e2, cell_kept e4 hg hr⟩) _) (ownFrom_below (Nat.le_refl _) (by simp; omega)))
    ⟨⟨⟨((bE.alloc _).alloc _).cell, ((bE.alloc _).alloc _).frozen⟩, ⟨by simpa using (bL.alloc _).cell, (bL.alloc _).frozen⟩, by simp⟩, hB0⟩
    (fun x => { tmps := #[.string s, .int .i64 n, undef, undef, .string ⟨#[]⟩, .bool false, .pointer (some ⟨w1.heap.size, 0, none⟩), .pointer (some ⟨w1.heap.size + 1, 0, none⟩), .int .i64 (x.1 : Int), .string s, .bool true, .bool false, .string s, .int .i64 (s.size : Nat), .int .i64 n, .int .i64 (m : Nat), .string s, .func (.func 29) #[] #[.pointer (some ⟨w1.heap.size + 1 + 1, 0, none⟩)], .int .i64 (x.1 : Int), .int .i64 x.2, undef, undef, undef, undef, undef, undef, undef, undef, undef, undef], defers := [] }) ?assign ?body ?done ?stop
  case assign =>
    intro l x W K hK
    gi_wp2
    exact hK
  case body =>
    rintro l pre x W ⟨⟨⟨hcE, hfE⟩, ⟨hcL, hfL⟩, hpm⟩, hB⟩ _
    by_cases hz : pre.length = m
    · have ht : (((m : Int) - (pre.length : Nat)) == 0) = true := by rw [beq_iff_eq]; omega
      have Hz := Lib.hid hz
      clear hz
      gi_wp2
      exact ⟨(KeepsOthers.setCell _ _ _).from _, ⟨rfl, pre, x, rfl, Hz.out, World.cell?_setCell_same' _ _ _ (by rw [hcE]; rfl)⟩, hB.setCell (p := ⟨w1.heap.size, 0, none⟩) (Nat.le_refl _) _⟩
    · have ht : (((m : Int) - (pre.length : Nat)) == 0) = false := by rw [beq_eq_false_iff_ne]; omega
      have hp1 : (pre.length : Int) < m := by omega
      have hp2 : (m : Int) ≤ 9223372036854775807 := by omega
      clear hz
      gi_wp2
      refine ⟨(KeepsOthers.setCell _ _ _).from _, KS.set _ _ _ (show 1 ≤ w1.heap.size + 1 by omega) (by simp), ⟨⟨?_, ?_⟩, ⟨?_, by rw [World.frozen?_setCell]; exact hfL⟩, by rw [List.length_append]; simp; omega⟩, hB.setCell (p := ⟨w1.heap.size + 1, 0, none⟩) (Nat.le_succ _) _⟩
      · rw [World.cell?_setCell_other _ _ _ _ (by simp)]; exact hcE
      · rw [World.frozen?_setCell]; exact hfE
      · refine (World.cell?_setCell_same' _ _ _ (by rw [hcL]; rfl)).trans ?_
        congr 2
        rw [List.length_append]; simp; omega
  case done =>
    rintro D ys W hD rfl ⟨⟨⟨hcE, hfE⟩, ⟨hcL, hfL⟩, hpm⟩, hB⟩ hK
    have Hcut : Hid (cutAt m s.size (sq 0 s.data.toList) = s.size) := by
      show cutAt m s.size (sq 0 s.data.toList) = s.size
      unfold cutAt
      rw [List.getElem?_eq_none hpm]
    have hss : s.size ≤ 281474976710656 := by omega
    clear hcL hfL hpm
    go_wp2_with fail
    refine (clone_any _ _ (by omega)).mono ?_
    rintro e w2 ⟨rfl, hb2⟩
    have hDlt : D < W.heap.size := (Array.getElem?_eq_some_iff.1 hK).1
    have hK2 : w2.heap[D]? = some (.deferred (some [])) := (hb2.block D hDlt).trans hK
    go_wp2
    rw [Exit.noGoto_ret]
    refine ⟨by simp, .inl ⟨_, _, rfl, run_takeDeferred hK2, ?_⟩⟩
    refine ⟨_, results_tmp2 (t := 4) (u := 5) rfl _ _ _, ret_strb (by rw [Hcut.out]; simp), ?_⟩
    have hB2 : Below w1.heap.size w1 w2 := hB.trans (hb2.mono hB.size)
    exact hb1.trans ((hB2.trans (belowK_b (w := w1) (Nat.le_refl _) w2 D _ _ (by simp at hD; omega) hK2 rfl rfl)).mono hsz)
  case stop =>
    rintro D c pre W hD ⟨rest, hpre⟩ ⟨⟨rfl, ini, last, e1, e2, hcE⟩, hB⟩ hK
    have hmem : last ∈ sq 0 s.data.toList := by rw [← hpre, e1]; simp
    have hlast : last.1 ≤ s.size := by
      have := sq_place _ _ last hmem
      rw [Array.length_toList] at this
      have h2 : s.data.size = s.size := rfl
      omega
    have Hcut : Hid (cutAt m s.size (sq 0 s.data.toList) = last.1) := by
      show cutAt m s.size (sq 0 s.data.toList) = last.1
      unfold cutAt
      rw [← hpre, e1, ← e2]
      simp
    clear hmem e1 e2 hpre
    obtain ⟨q, hq⟩ : ∃ q, last.1 = q := ⟨_, rfl⟩
    rw [hq] at hlast hcE Hcut
    clear hq
    refine wpIn_wide.2 ?_
    go_wp2_with fail
    refine (clone_any _ _ (by rw [ByteArray.size_extract]; omega)).mono ?_
    rintro e w2 ⟨rfl, hb2⟩
    have hDlt : D < W.heap.size := (Array.getElem?_eq_some_iff.1 hK).1
    have hK2 : w2.heap[D]? = some (.deferred (some [])) := (hb2.block D hDlt).trans hK
    go_wp2
    rw [Exit.noGoto_ret]
    refine ⟨by simp, .inl ⟨_, _, rfl, run_takeDeferred hK2, ?_⟩⟩
    refine ⟨_, results_tmp2 (t := 4) (u := 5) rfl _ _ _, ret_strb (by rw [Hcut.out]), ?_⟩
    have hB2 : Below w1.heap.size w1 w2 := hB.trans (hb2.mono hB.size)
    exact hb1.trans ((hB2.trans (belowK_b (w := w1) (Nat.le_refl _) w2 D _ _ (by simp at hD; omega) hK2 rfl rfl)).mono hsz)
end Go.Proofs.YtelneckipjbiaaaDoor.utf
