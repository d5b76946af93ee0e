/- Layer 7: the law LabelTells. -/
import Derived.Test.YtodobacgbbpmfaaDoorLabAwake
import Derived.Test.YtodobacgbbpmfaaDoorLabRSel
import Derived.Test.YtodobacgbbpmfaaDoorRepK
namespace Go.Proofs.YtodobacgbbpmfaaDoor.lab
open Go.RowKit Go.Proofs.YtodobacgbbpmfaaDoor.rep

theorem small_len (s : Sel) : (smallS s).labels.length ≤ 8 ∧ (smallS s).wants.length ≤ 8 := by
  refine ⟨?_, ?_⟩
  · show (s.labels.take 8).length ≤ 8; rw [List.length_take]; omega
  · show ((s.wants.take 8).map cutW).length ≤ 8; rw [List.length_map, List.length_take]; omega
/-- What small gives, read as rows in each world that keeps its row. -/
theorem small_rows {B : Nat} {S : Sel} {w0 w' : World} {a : Option Addr} {c : Nat} {t : Value} {css : List (List Value)} {base : Nat} (hB : 8 ≤ B) (h8 : S.labels.length ≤ 8 ∧ S.wants.length ≤ 8) (hmc : S.labels.length ≤ c) (hc : c ≤ 9223372036854775807) (hr : RowIn (prR B) w0 a S.labels) (hL : Lists (wtR B) w0 css S.wants)
    (ho : w'.ownsRow base 37 3 t S.wants.length css.flatten) (hb : Below w0.heap.size w0 w') : RowAt B (prR B) w' (.slice a S.labels.length c) S.labels ∧ RowAt B (wtR B) w' t S.wants :=
  ⟨⟨a, c, rfl, hmc, hc, by omega, hr.later hb⟩, RowAt.of_own ho rfl (hL.later hb) (by omega)⟩
set_option maxRecDepth 100000 in
set_option maxHeartbeats 4000000 in
theorem lawTells (B : Nat) (hB : B ≤ 2000000) (hB2 : 100 ≤ B) (s : Sel) (u t : Value) (ul : Value) (l : List Pr) (key : ByteArray) (w : World) (hu : RowAt B (prR B) w u s.labels) (ht : RowAt B (wtR B) w t s.wants) (hr : RowAt B (prR B) w ul l) (_hk : key.size ≤ B) (hm : nam.MaxL w) :
    Calls Tryd.prog 3 #[.agg #[u, t], ul, .string key] w fun e w' => e = .returned (.bool true) ∧ Below w.heap.size w w' := by
  obtain ⟨a, c, rfl, hlc, hcm, hlB, hri⟩ := hr
  obtain ⟨m, hme⟩ : ∃ m, m = (l.take 8).length := ⟨_, rfl⟩
  have hm8 : m ≤ 8 := by rw [hme, List.length_take]; omega
  have hml : m ≤ l.length := by rw [hme, List.length_take]; omega
  have cf := fun w => few_any a c l hlc hcm m hme w
  have hr8 : RowIn (prR B) w a (l.take 8) := hri.take 8
  generalize l.take 8 = l8 at *
  subst hme
  clear hri
  have hbx := below_new w (.cells #[u, t] 25)
  have x0 : (w.alloc (.cells #[u, t] 25)).heap[w.heap.size]? = some (.cells #[u, t] 25 (0, 0)) := heap_alloc_new _ _
  have cs := fun W hW => small_any B (by omega) s u t w W hW hu ht
  have hS8 := small_len s
  unfold SmallTo at cs
  generalize smallS s = S at *
  go_enter Tryd.func3, Tryd.ntmps3
  go_wp2_with fail
  refine (awake_any _ (hm.later hbx)).mono ?_
  rintro e w1 ⟨rfl, hb1⟩
  have b1 := chain hbx hb1
  have x1 := blk_later x0 hb1
  have k0 : w1.cell? ⟨w.heap.size, 0, none⟩ = some u := blk_cell x1 0
  have k1 : w1.cell? ⟨w.heap.size, 1, none⟩ = some t := blk_cell x1 1
  clear x0 hbx
  go_wp2_with fail
  refine (cs _ b1).mono ?_
  rintro e w2 ⟨sa, sm, sc, st, css, rfl, rfl, hsmc, hsc, hsr, hL, hown, hb2⟩
  obtain ⟨oa, oc, rfl⟩ := own_form hown
  have b2 := chain b1 hb2
  have x2 := blk_later x1 hb2
  have q0 := blk_frozen x2 0
  have q1 := blk_frozen x2 1
  have j0 : w2.cell? ⟨w.heap.size, 0, none⟩ = some u := blk_cell x2 0
  have j1 : w2.cell? ⟨w.heap.size, 1, none⟩ = some t := blk_cell x2 1
  have lw1 := blk_lt x1
  obtain ⟨wx, hwx⟩ : ∃ wx, wx = (w2.setCell ⟨w.heap.size, 0, none⟩ (.slice sa S.labels.length sc)).setCell ⟨w.heap.size, 1, none⟩ (.slice oa S.wants.length oc) := ⟨_, rfl⟩
  have bx : Below w.heap.size w wx := by rw [hwx]; exact (b2.setCell (Nat.le_refl _) _).setCell (Nat.le_refl _) _
  have xx : wx.heap[w.heap.size]? = some (.cells #[.slice sa S.labels.length sc, .slice oa S.wants.length oc] 25 (0, 0)) := by
    rw [hwx]; exact blk_set (blk_set x2 0 _) 1 _
  have ox : wx.ownsRow w1.heap.size 37 3 (.slice oa S.wants.length oc) S.wants.length css.flatten := by
    rw [hwx]
    exact own_stays hown fun i hi _ => by rw [blk_far _ (by show i ≠ w.heap.size; omega), blk_far _ (by show i ≠ w.heap.size; omega)]
  have RW := Lib.hid (show ∀ W, Below wx.heap.size wx W → Below w.heap.size w W ∧ RowAt B (prR B) W (.slice sa S.labels.length sc) S.labels ∧ RowAt B (wtR B) W (.slice oa S.wants.length oc) S.wants ∧ W.cell? ⟨w.heap.size, 0, none⟩ = some (.slice sa S.labels.length sc) ∧ W.cell? ⟨w.heap.size, 1, none⟩ = some (.slice oa S.wants.length oc) ∧ w.heap.size < W.heap.size from fun W hW => by
    have h1 := chain bx hW
    obtain ⟨h2, h3⟩ := small_rows (B := B) (by omega) hS8 hsmc hsc hsr hL (own_stays ox fun i _ hi => hW.block i hi) h1
    exact ⟨h1, h2, h3, blk_cell (blk_later xx hW) 0, blk_cell (blk_later xx hW) 1, blk_lt (blk_later xx hW)⟩)
  have Hwx := Lib.hid hwx
  clear hwx hown hL hsr x1 x2 xx ox bx b2 hb2 cs
  go_wp2_with fail
  rw [← Hwx.out]
  refine (cf _).mono ?_
  rintro e w3 ⟨rfl, rfl⟩
  clear k0 k1 q0 q1 j0 j1 Hwx
  obtain ⟨bx, rl, rt, z0, z1, zl⟩ := RW.out wx (Below.refl _ _)
  have cH := fun W hW => Has_any B (by omega) a c l8 (by omega) key W (hr8.later hW)
  have cR := fun W hW => rHas_any B a c l8 (by omega) key W (hr8.later hW)
  unfold HasTo at cH
  unfold FoundTo at cR
  generalize hasV l8 key = hv at *
  generalize hasB l8 key = hb at *
  go_wp2_with fail
  refine (cH _ bx).mono ?_
  rintro e w3 ⟨rfl, hb3⟩
  go_wp2_with fail
  refine (cR _ (chain bx hb3)).mono ?_
  rintro e w4 ⟨rfl, hb4⟩
  have hb34 := chain hb3 hb4
  have hb5 := chain hb34 (below_new w4 (.cells #[.string hv, .bool hb] 32))
  have FB := Lib.hid (show ∀ W, Below (w4.alloc (.cells #[.string hv, .bool hb] 32)).heap.size (w4.alloc (.cells #[.string hv, .bool hb] 32)) W → W.cell? ⟨w4.heap.size, 0, none⟩ = some (.string hv) ∧ W.cell? ⟨w4.heap.size, 1, none⟩ = some (.bool hb) from fun W hW =>
    ⟨(hW.cell (p := ⟨w4.heap.size, 0, none⟩) (by show w4.heap.size < _; simp)).trans (cell_new _ _ _ _), (hW.cell (p := ⟨w4.heap.size, 1, none⟩) (by show w4.heap.size < _; simp)).trans (cell_new _ _ _ _)⟩)
  have Hb5 := Lib.hid hb5
  clear rl rt z0 z1 zl bx cH cR hb3 hb4 hb34 hb5 cf
  go_wp2
  go_loopw [11] (fun v wr => ∃ k : Nat, k ≤ S.wants.length ∧ v = .int .i64 k ∧ Below (w4.alloc (.cells #[.string hv, .bool hb] 32)).heap.size (w4.alloc (.cells #[.string hv, .bool hb] 32)) wr) (fun v _ => S.wants.length - (intOf v).toNat)
  case atStart => exact ⟨0, by omega, rfl, Below.refl _ _⟩
  case round =>
    obtain ⟨k, hk, rfl, hbr⟩ := hrel
    obtain ⟨wz, rfl⟩ : ∃ w', w' = wr := ⟨wr, rfl⟩
    have hbz := chain Hb5.out hbr
    have mixed := mixed
    by_cases hlt : k < S.wants.length
    · obtain ⟨bz, rl, rt, z0, z1, zl⟩ := RW.out wz hbz
      obtain ⟨b, off, rfl, hbl, cs, hat, hcell⟩ := rt.inn.get hlt
      obtain ⟨y, hcs, hy1, hy2, hy3⟩ := hat
      subst hcs
      have e0 : wz.cell? ⟨b, off + k * 3, none⟩ = some (.string S.wants[k].key) := hcell 0 _ rfl
      have e1 : wz.cell? ⟨b, off + k * 3 + 1, none⟩ = some (.string S.wants[k].how) := hcell 1 _ rfl
      have e2 : wz.cell? ⟨b, off + k * 3 + 2, none⟩ = some y := hcell 2 _ rfl
      obtain ⟨q, hq⟩ : ∃ q, q = wantsB S.wants[k] l8 := ⟨_, rfl⟩
      have C1 := Lib.hid (show ∀ W, Below wz.heap.size wz W → Calls Tryd.prog 14 #[.agg #[.string S.wants[k].key, .string S.wants[k].how, y], .slice a l8.length c] W (fun e W' => e = .returned (.bool q) ∧ Below W.heap.size W W') from fun W hW => by rw [hq]; exact Wants_any B (by omega) S.wants[k] y a c l8 (by omega) W (hy3.later hW) (hr8.later (chain bz hW)))
      have C2 := Lib.hid (show ∀ W, Below wz.heap.size wz W → Calls Tryd.prog 15 #[.agg #[.string S.wants[k].key, .string S.wants[k].how, y], .slice a l8.length c] W (fun e W' => e = .returned (.bool q) ∧ Below W.heap.size W W') from fun W hW => by rw [hq]; exact rWants_any B S.wants[k] y a c l8 (by omega) W (hy3.later hW) (by obtain ⟨_, _, _, _, _, h, _⟩ := hy3; omega) (hr8.later (chain bz hW)))
      have k1 := cell_below zl z1
      have g0 := cell_below hbl e0
      have g1 := cell_below hbl e1
      have g2 := cell_below hbl e2
      have ki : (k : Int) < (S.wants.length : Int) := by omega
      clear hcell rl rt z0 hq e0 e1 e2 hy3
      go_wp2
      refine wp_region_quiet_below (by assumption) (by kernel_rfl) ?_
      repeat (quiet_step (first
        | (go_at_call 14; exact calls_below (C1.out _ (below_of_grown _ _)))
        | (go_at_call 15; exact calls_below (C2.out _ (below_of_grown _ _)))))
      refine wpQuiet_nil ?_
      intro _ hw'
      obtain ⟨⟨nq, osq⟩, hw''⟩ := hw'
      subst hw''
      go_wp2_with fail
      go_roundw
      case rel => exact ⟨k + 1, by omega, by go_num, chain hbr (below_of_grown nq osq)⟩
      case measure => simp [intOf]; omega
    · obtain ⟨f0, f1⟩ := FB.out wz hbr
      obtain ⟨b1, hb1⟩ : ∃ b1, checkB S = b1 := ⟨_, rfl⟩
      obtain ⟨b2, hb2⟩ : ∃ b2, labelsB l8 = b2 := ⟨_, rfl⟩
      obtain ⟨b3, hb3⟩ : ∃ b3, selB S l8 = b3 := ⟨_, rfl⟩
      have HB1 := Lib.hid hb1
      have HB2 := Lib.hid hb2
      have HB3 := Lib.hid hb3
      clear hb1 hb2 hb3
      have zz := RW.out wz hbz
      have z1' := zz.2.2.2.2.1
      clear zz
      by_cases hl0 : S.labels.length = 0
      · have q1 : ((S.labels.length : Int) == 0) = true := by rw [hl0]; rfl
        by_cases hw0 : S.wants.length = 0
        · have q2 : ((S.wants.length : Int) == 0) = true := by rw [hw0]; rfl
          have HE := Lib.hid (show emptyB S = true by unfold emptyB; rw [decide_eq_true hl0, decide_eq_true hw0]; rfl)
          clear hl0 hw0
          go_wp2
          clear z1'
          have z2 := RW.out wz hbz
          obtain ⟨bz, rl, rt, z0, z1, zl⟩ := z2
          have C1 := Lib.hid (show ∀ W, Below wz.heap.size wz W → Calls Tryd.prog 16 #[.agg #[.slice sa S.labels.length sc, .slice oa S.wants.length oc]] W (fun e W' => e = .returned (.bool b1) ∧ Below W.heap.size W W') from fun W hW => by rw [← HB1.out]; exact Check_any B (by omega) S _ _ W (rl.later hW) (rt.later hW) (hm.later (chain bz hW)))
          have C2 := Lib.hid (show ∀ W, Below wz.heap.size wz W → Calls Tryd.prog 17 #[.agg #[.slice sa S.labels.length sc, .slice oa S.wants.length oc]] W (fun e W' => e = .returned (.bool b1) ∧ Below W.heap.size W W') from fun W hW => by rw [← HB1.out]; exact rCheck_any B hB S _ _ W (rl.later hW) (rt.later hW))
          have C3 := Lib.hid (show ∀ W, Below wz.heap.size wz W → Calls Tryd.prog 18 #[.slice a l8.length c] W (fun e W' => e = .returned (.bool b2) ∧ Below W.heap.size W W') from fun W hW => by rw [← HB2.out]; exact Labels_any B (by omega) a c l8 (by omega) W (hr8.later (chain bz hW)) (hm.later (chain bz hW)))
          have C4 := Lib.hid (show ∀ W, Below wz.heap.size wz W → Calls Tryd.prog 19 #[.slice a l8.length c] W (fun e W' => e = .returned (.bool b2) ∧ Below W.heap.size W W') from fun W hW => by rw [← HB2.out]; exact rLabels_any B hB a c l8 (by omega) W (hr8.later (chain bz hW)))
          have C5 := Lib.hid (show ∀ W, Below wz.heap.size wz W → Calls Tryd.prog 20 #[.agg #[.slice sa S.labels.length sc, .slice oa S.wants.length oc], .slice a l8.length c] W (fun e W' => e = .returned (.bool b3) ∧ Below W.heap.size W W') from fun W hW => by rw [← HB3.out]; exact Selects_any B (by omega) S _ _ a c l8 (by omega) W (rl.later hW) (rt.later hW) (hr8.later (chain bz hW)))
          have C6 := Lib.hid (show ∀ W, Below wz.heap.size wz W → Calls Tryd.prog 21 #[.agg #[.slice sa S.labels.length sc, .slice oa S.wants.length oc], .slice a l8.length c] W (fun e W' => e = .returned (.bool b3) ∧ Below W.heap.size W W') from fun W hW => by rw [← HB3.out]; exact rSelects_any B (by omega) S _ _ a c l8 (by omega) W (rl.later hW) (rt.later hW) (hr8.later (chain bz hW)))
          have C7 := Lib.hid (show ∀ W, Below wz.heap.size wz W → Calls Tryd.prog 22 #[.agg #[.slice sa S.labels.length sc, .slice oa S.wants.length oc]] W (fun e W' => e = .returned (.bool true) ∧ Below W.heap.size W W') from fun W hW => by rw [← HE.out]; exact Empty_any B S _ _ W (rl.later hW) (rt.later hW))
          have k0 := cell_below zl z0
          have k1 := cell_below zl z1
          have k2 := cell_below (cell_lt f0) f0
          have k3 := cell_below (cell_lt f1) f1
          clear rl rt z0 z1 zl f0 f1 HE
          refine wp_region_quiet_below (by assumption) (by kernel_rfl) ?_
          repeat (quiet_step (first
            | (go_at_call 16; exact calls_below (C1.out _ (below_of_grown _ _)))
            | (go_at_call 17; exact calls_below (C2.out _ (below_of_grown _ _)))
            | (go_at_call 18; exact calls_below (C3.out _ (below_of_grown _ _)))
            | (go_at_call 19; exact calls_below (C4.out _ (below_of_grown _ _)))
            | (go_at_call 20; exact calls_below (C5.out _ (below_of_grown _ _)))
            | (go_at_call 21; exact calls_below (C6.out _ (below_of_grown _ _)))
            | (go_at_call 22; exact calls_below (C7.out _ (below_of_grown _ _)))))
          refine wpQuiet_nil ?_
          intro _ hw'
          obtain ⟨⟨nq, osq⟩, hw''⟩ := hw'
          subst hw''
          go_wp2_with fail
          go_ret
          exact ⟨rfl, chain bz (below_of_grown nq osq)⟩
        · have q2 : ((S.wants.length : Int) == 0) = false := beq_eq_false_iff_ne.2 (by omega)
          have HE := Lib.hid (show emptyB S = false by unfold emptyB; rw [decide_eq_false hw0, Bool.and_false])
          clear hl0 hw0
          go_wp2
          clear z1'
          have z2 := RW.out wz hbz
          obtain ⟨bz, rl, rt, z0, z1, zl⟩ := z2
          have C1 := Lib.hid (show ∀ W, Below wz.heap.size wz W → Calls Tryd.prog 16 #[.agg #[.slice sa S.labels.length sc, .slice oa S.wants.length oc]] W (fun e W' => e = .returned (.bool b1) ∧ Below W.heap.size W W') from fun W hW => by rw [← HB1.out]; exact Check_any B (by omega) S _ _ W (rl.later hW) (rt.later hW) (hm.later (chain bz hW)))
          have C2 := Lib.hid (show ∀ W, Below wz.heap.size wz W → Calls Tryd.prog 17 #[.agg #[.slice sa S.labels.length sc, .slice oa S.wants.length oc]] W (fun e W' => e = .returned (.bool b1) ∧ Below W.heap.size W W') from fun W hW => by rw [← HB1.out]; exact rCheck_any B hB S _ _ W (rl.later hW) (rt.later hW))
          have C3 := Lib.hid (show ∀ W, Below wz.heap.size wz W → Calls Tryd.prog 18 #[.slice a l8.length c] W (fun e W' => e = .returned (.bool b2) ∧ Below W.heap.size W W') from fun W hW => by rw [← HB2.out]; exact Labels_any B (by omega) a c l8 (by omega) W (hr8.later (chain bz hW)) (hm.later (chain bz hW)))
          have C4 := Lib.hid (show ∀ W, Below wz.heap.size wz W → Calls Tryd.prog 19 #[.slice a l8.length c] W (fun e W' => e = .returned (.bool b2) ∧ Below W.heap.size W W') from fun W hW => by rw [← HB2.out]; exact rLabels_any B hB a c l8 (by omega) W (hr8.later (chain bz hW)))
          have C5 := Lib.hid (show ∀ W, Below wz.heap.size wz W → Calls Tryd.prog 20 #[.agg #[.slice sa S.labels.length sc, .slice oa S.wants.length oc], .slice a l8.length c] W (fun e W' => e = .returned (.bool b3) ∧ Below W.heap.size W W') from fun W hW => by rw [← HB3.out]; exact Selects_any B (by omega) S _ _ a c l8 (by omega) W (rl.later hW) (rt.later hW) (hr8.later (chain bz hW)))
          have C6 := Lib.hid (show ∀ W, Below wz.heap.size wz W → Calls Tryd.prog 21 #[.agg #[.slice sa S.labels.length sc, .slice oa S.wants.length oc], .slice a l8.length c] W (fun e W' => e = .returned (.bool b3) ∧ Below W.heap.size W W') from fun W hW => by rw [← HB3.out]; exact rSelects_any B (by omega) S _ _ a c l8 (by omega) W (rl.later hW) (rt.later hW) (hr8.later (chain bz hW)))
          have C7 := Lib.hid (show ∀ W, Below wz.heap.size wz W → Calls Tryd.prog 22 #[.agg #[.slice sa S.labels.length sc, .slice oa S.wants.length oc]] W (fun e W' => e = .returned (.bool false) ∧ Below W.heap.size W W') from fun W hW => by rw [← HE.out]; exact Empty_any B S _ _ W (rl.later hW) (rt.later hW))
          have k0 := cell_below zl z0
          have k1 := cell_below zl z1
          have k2 := cell_below (cell_lt f0) f0
          have k3 := cell_below (cell_lt f1) f1
          clear rl rt z0 z1 zl f0 f1 HE
          refine wp_region_quiet_below (by assumption) (by kernel_rfl) ?_
          repeat (quiet_step (first
            | (go_at_call 16; exact calls_below (C1.out _ (below_of_grown _ _)))
            | (go_at_call 17; exact calls_below (C2.out _ (below_of_grown _ _)))
            | (go_at_call 18; exact calls_below (C3.out _ (below_of_grown _ _)))
            | (go_at_call 19; exact calls_below (C4.out _ (below_of_grown _ _)))
            | (go_at_call 20; exact calls_below (C5.out _ (below_of_grown _ _)))
            | (go_at_call 21; exact calls_below (C6.out _ (below_of_grown _ _)))
            | (go_at_call 22; exact calls_below (C7.out _ (below_of_grown _ _)))))
          refine wpQuiet_nil ?_
          intro _ hw'
          obtain ⟨⟨nq, osq⟩, hw''⟩ := hw'
          subst hw''
          go_wp2_with fail
          go_ret
          exact ⟨rfl, chain bz (below_of_grown nq osq)⟩
      · have q1 : ((S.labels.length : Int) == 0) = false := beq_eq_false_iff_ne.2 (by omega)
        have HE := Lib.hid (show emptyB S = false by unfold emptyB; rw [decide_eq_false hl0, Bool.false_and])
        clear hl0
        go_wp2
        clear z1'
        have z2 := RW.out wz hbz
        obtain ⟨bz, rl, rt, z0, z1, zl⟩ := z2
        have C1 := Lib.hid (show ∀ W, Below wz.heap.size wz W → Calls Tryd.prog 16 #[.agg #[.slice sa S.labels.length sc, .slice oa S.wants.length oc]] W (fun e W' => e = .returned (.bool b1) ∧ Below W.heap.size W W') from fun W hW => by rw [← HB1.out]; exact Check_any B (by omega) S _ _ W (rl.later hW) (rt.later hW) (hm.later (chain bz hW)))
        have C2 := Lib.hid (show ∀ W, Below wz.heap.size wz W → Calls Tryd.prog 17 #[.agg #[.slice sa S.labels.length sc, .slice oa S.wants.length oc]] W (fun e W' => e = .returned (.bool b1) ∧ Below W.heap.size W W') from fun W hW => by rw [← HB1.out]; exact rCheck_any B hB S _ _ W (rl.later hW) (rt.later hW))
        have C3 := Lib.hid (show ∀ W, Below wz.heap.size wz W → Calls Tryd.prog 18 #[.slice a l8.length c] W (fun e W' => e = .returned (.bool b2) ∧ Below W.heap.size W W') from fun W hW => by rw [← HB2.out]; exact Labels_any B (by omega) a c l8 (by omega) W (hr8.later (chain bz hW)) (hm.later (chain bz hW)))
        have C4 := Lib.hid (show ∀ W, Below wz.heap.size wz W → Calls Tryd.prog 19 #[.slice a l8.length c] W (fun e W' => e = .returned (.bool b2) ∧ Below W.heap.size W W') from fun W hW => by rw [← HB2.out]; exact rLabels_any B hB a c l8 (by omega) W (hr8.later (chain bz hW)))
        have C5 := Lib.hid (show ∀ W, Below wz.heap.size wz W → Calls Tryd.prog 20 #[.agg #[.slice sa S.labels.length sc, .slice oa S.wants.length oc], .slice a l8.length c] W (fun e W' => e = .returned (.bool b3) ∧ Below W.heap.size W W') from fun W hW => by rw [← HB3.out]; exact Selects_any B (by omega) S _ _ a c l8 (by omega) W (rl.later hW) (rt.later hW) (hr8.later (chain bz hW)))
        have C6 := Lib.hid (show ∀ W, Below wz.heap.size wz W → Calls Tryd.prog 21 #[.agg #[.slice sa S.labels.length sc, .slice oa S.wants.length oc], .slice a l8.length c] W (fun e W' => e = .returned (.bool b3) ∧ Below W.heap.size W W') from fun W hW => by rw [← HB3.out]; exact rSelects_any B (by omega) S _ _ a c l8 (by omega) W (rl.later hW) (rt.later hW) (hr8.later (chain bz hW)))
        have C7 := Lib.hid (show ∀ W, Below wz.heap.size wz W → Calls Tryd.prog 22 #[.agg #[.slice sa S.labels.length sc, .slice oa S.wants.length oc]] W (fun e W' => e = .returned (.bool false) ∧ Below W.heap.size W W') from fun W hW => by rw [← HE.out]; exact Empty_any B S _ _ W (rl.later hW) (rt.later hW))
        have k0 := cell_below zl z0
        have k1 := cell_below zl z1
        have k2 := cell_below (cell_lt f0) f0
        have k3 := cell_below (cell_lt f1) f1
        clear rl rt z0 z1 zl f0 f1 HE
        refine wp_region_quiet_below (by assumption) (by kernel_rfl) ?_
        repeat (quiet_step (first
          | (go_at_call 16; exact calls_below (C1.out _ (below_of_grown _ _)))
          | (go_at_call 17; exact calls_below (C2.out _ (below_of_grown _ _)))
          | (go_at_call 18; exact calls_below (C3.out _ (below_of_grown _ _)))
          | (go_at_call 19; exact calls_below (C4.out _ (below_of_grown _ _)))
          | (go_at_call 20; exact calls_below (C5.out _ (below_of_grown _ _)))
          | (go_at_call 21; exact calls_below (C6.out _ (below_of_grown _ _)))
          | (go_at_call 22; exact calls_below (C7.out _ (below_of_grown _ _)))))
        refine wpQuiet_nil ?_
        intro _ hw'
        obtain ⟨⟨nq, osq⟩, hw''⟩ := hw'
        subst hw''
        go_wp2_with fail
        go_ret
        exact ⟨rfl, chain bz (below_of_grown nq osq)⟩
end Go.Proofs.YtodobacgbbpmfaaDoor.lab
