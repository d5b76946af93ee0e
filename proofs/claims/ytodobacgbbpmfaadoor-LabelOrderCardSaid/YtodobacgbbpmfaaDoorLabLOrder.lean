/- Layer 7: the law LabelOrder. -/
import Derived.Test.YtodobacgbbpmfaaDoorLabAwake
import Derived.Test.YtodobacgbbpmfaaDoorRepK
import Derived.Deep.AppendLies
import Derived.RegionTactic
import Derived.Deep.Strs
namespace Go.Proofs.YtodobacgbbpmfaaDoor.lab
open Go.RowKit Go.Proofs.YtodobacgbbpmfaaDoor.rep

theorem drop_rev {α : Type} {l : List α} {r : Nat} (h : r < l.length) : (l.drop r).reverse = (l.drop (r + 1)).reverse ++ [l[r]] := by
  rw [List.drop_eq_getElem_cons h, List.reverse_cons]
theorem small_len' (s : Sel) : (smallS s).labels.length ≤ 8 ∧ (smallS s).wants.length ≤ 8 := by
  refine ⟨?_, ?_⟩
  · show (s.labels.take 8).length ≤ 8; rw [List.length_take]; omega
  · show ((s.wants.take 8).map cutW).length ≤ 8; rw [List.length_map, List.length_take]; omega
section
variable {wy wv w5 w6 w0 : World} {g j : Nat} {u : Value} {base : Nat} {e : TypeId} {sz n : Nat} {v : Value} {xs : List Value}
theorem grew (HK : Kept (fun k => k = g) wy wv) (hown : wv.ownsRow base e sz v n xs) (hb5 : Below wv.heap.size wv w5) (hbase : wy.heap.size ≤ base) (hg : w5.grownBy w6 v.ownBlock) : Kept (fun k => k = g) wy (w6.setCell ⟨g, j, none⟩ u) := by
  refine ⟨by rw [set_size]; exact Nat.le_trans HK.1 (Nat.le_trans hb5.size hg.size), fun i hi hx => ?_⟩
  rw [(Kept.set w6 g j u).2 i (Nat.lt_of_lt_of_le hi (Nat.le_trans HK.1 (Nat.le_trans hb5.size hg.size))) hx]
  rw [(Kept.grown hg).2 i (Nat.lt_of_lt_of_le hi (Nat.le_trans HK.1 hb5.size)) fun h => by have := (hown.lt i h).1; omega]
  rw [hb5.block i (Nat.lt_of_lt_of_le hi HK.1)]
  exact HK.2 i hi hx
theorem grew_below (hb : Below w0.heap.size w0 wv) (hown : wv.ownsRow base e sz v n xs) (hb5 : Below wv.heap.size wv w5) (hbase : w0.heap.size ≤ base) (hg : w5.grownBy w6 v.ownBlock) (hgw : w0.heap.size ≤ g) : Below w0.heap.size w0 (w6.setCell ⟨g, j, none⟩ u) :=
  (below_own (chain hb hb5) hg (own_stays hown fun i _ hi => hb5.block i hi) hbase).setCell hgw u
theorem below_alloc_drew (w : World) (o : Obj) : Below w.heap.size w (w.alloc o).drew := ((below_new w o)).drew
end
theorem own_get {α : Type} {r : Rep α} {w W : World} {base : Nat} {e : TypeId} {v : Value} {n : Nat} {css : List (List Value)} {l : List α} (ho : W.ownsRow base e r.n v n css.flatten) (hL : Lists r w css l) {i : Nat} (hi : i < l.length) (hn : n = l.length) {a : Option Addr} {m c : Nat} (hv : v = .slice a m c) :
    ∃ g cs, a = some ⟨g, 0, none⟩ ∧ g < W.heap.size ∧ r.at_ w cs l[i] ∧ ∀ j u, cs[j]? = some u → W.cell? ⟨g, i * r.n + j, none⟩ = some u := by
  have ho' := ho
  rcases ho.2 with ⟨_, h0⟩ | ⟨g, cap, cur, rfl, _, hg, _⟩
  · omega
  · simp only [Value.slice.injEq] at hv
    have hic : i < css.length := by rw [hL.1]; exact hi
    refine ⟨g, css[i], hv.1.symm, (Array.getElem?_eq_some_iff.1 hg).1, hL.2 i _ _ (List.getElem?_eq_getElem hic) (List.getElem?_eq_getElem hi), fun j u hu => ?_⟩
    have := ho'.cells rfl _ _ (flat_put hL.len (List.getElem?_eq_getElem hic) hu)
    rwa [addr_add, Nat.zero_add] at this
/-- An operation that is not asked for, into a slot that holds nothing. -/
theorem wpQuiet_skip {P : Program} {ops : Array Oper} {C : World → Prop} {Q : Act → Prop} {a : Act} {o : Oper} {rest : List Oper} (hw : Region.wanted o (yielded ops a.tmps) = false) (hp : a.put o.dst undef = a) (h : wpQuiet P ops C Q rest a) : wpQuiet P ops C Q (o :: rest) a :=
  wpQuiet_step fun K hK => by rw [if_neg (by rw [hw]; decide), hp]; exact hK _ h
set_option maxRecDepth 100000 in
set_option maxHeartbeats 40000000 in
theorem lawOrder (B : Nat) (hB : B ≤ 140737488355328) (hB2 : 100 ≤ B) (s : Sel) (u t : Value) (ul : Value) (l : List Pr) (w : World) (hu : RowAt B (prR B) w u s.labels) (ht : RowAt B (wtR B) w t s.wants) (hr : RowAt B (prR B) w ul l) (hm : nam.MaxL w) :
    Calls Tryd.prog 6 #[.agg #[u, t], ul] w fun e w' => e = .returned (.bool true) ∧ Below w.heap.size w w' := by
  obtain ⟨i0, hi0, hz0, hz1, hz2⟩ := info_parts info_Pr
  obtain ⟨j0, hj0, hy0, hy1, hy2⟩ := info_parts info_Wt
  obtain ⟨a, c, rfl, hlc, hcm, hlB, hri⟩ := hr
  obtain ⟨m, hme⟩ : ∃ m, m = (l.take 8).length := ⟨_, rfl⟩
  have hm8 : m ≤ 8 := by rw [hme, List.length_take]; omega
  have hml : m ≤ l.length := by rw [hme, List.length_take]; omega
  have cf := fun w => few_any a c l hlc hcm m hme w
  have Hr8 := Lib.hid (show RowIn (prR B) w a (l.take 8) from hri.take 8)
  generalize l.take 8 = l8 at *
  subst hme
  clear hri
  have cs := fun W hW => small_any B (by omega) s u t w W hW hu ht
  have hS8 := small_len' s
  unfold SmallTo at cs
  generalize smallS s = S at *
  have hbx := below_new w (.cells #[u, t] 25)
  have x0 : (w.alloc (.cells #[u, t] 25)).heap[w.heap.size]? = some (.cells #[u, t] 25 (0, 0)) := heap_alloc_new _ _
  go_enter Tryd.func6, Tryd.ntmps6
  go_wp2_with fail
  refine (awake_any _ (hm.later hbx)).mono ?_
  rintro e w1 ⟨rfl, hb1⟩
  have b1 := chain hbx hb1
  have x1 := blk_later x0 hb1
  have k0 : w1.cell? ⟨w.heap.size, 0, none⟩ = some u := blk_cell x1 0
  have k1 : w1.cell? ⟨w.heap.size, 1, none⟩ = some t := blk_cell x1 1
  clear x0 hbx
  go_wp2_with fail
  refine (cs _ b1).mono ?_
  rintro e w2 ⟨sa, sm, sc, st, css, rfl, rfl, hsmc, hsc, hsr, hL, hown, hb2⟩
  obtain ⟨oa, oc, rfl⟩ := own_form hown
  have b2 := chain b1 hb2
  have x2 := blk_later x1 hb2
  have q0 := blk_frozen x2 0
  have q1 := blk_frozen x2 1
  have j0' : w2.cell? ⟨w.heap.size, 0, none⟩ = some u := blk_cell x2 0
  have j1' : w2.cell? ⟨w.heap.size, 1, none⟩ = some t := blk_cell x2 1
  have lw1 := blk_lt x1
  obtain ⟨wx, hwx⟩ : ∃ wx, wx = (w2.setCell ⟨w.heap.size, 0, none⟩ (.slice sa S.labels.length sc)).setCell ⟨w.heap.size, 1, none⟩ (.slice oa S.wants.length oc) := ⟨_, rfl⟩
  have bx : Below w.heap.size w wx := by rw [hwx]; exact (b2.setCell (Nat.le_refl _) _).setCell (Nat.le_refl _) _
  have xx : wx.heap[w.heap.size]? = some (.cells #[.slice sa S.labels.length sc, .slice oa S.wants.length oc] 25 (0, 0)) := by
    rw [hwx]; exact blk_set (blk_set x2 0 _) 1 _
  have ox : wx.ownsRow w1.heap.size 37 3 (.slice oa S.wants.length oc) S.wants.length css.flatten := by
    rw [hwx]
    exact own_stays hown fun i hi _ => by rw [blk_far _ (by show i ≠ w.heap.size; omega), blk_far _ (by show i ≠ w.heap.size; omega)]
  have Hwx := Lib.hid hwx
  have XX := Lib.hid xx
  have OX := Lib.hid ox
  have HL := Lib.hid hL
  have Hsr := Lib.hid hsr
  clear hwx hown x1 x2 b2 hb2 cs xx ox hL hsr
  go_wp2_with fail
  rw [← Hwx.out]
  refine (cf _).mono ?_
  rintro e w3 ⟨rfl, rfl⟩
  clear k0 k1 q0 q1 j0' j1' Hwx b1 hb1 lw1
  go_wp2
  go_loopw [6, 7] (fun v i wr => ∃ (r : Nat) (dss : List (List Value)) (z : Int), r ≤ l8.length ∧ i = .int .i64 z ∧ Hid (z = (r : Int) - 1) ∧ Hid (wr.ownsRow wx.heap.size 43 2 v (l8.length - r) dss.flatten) ∧ Hid (Lists (prR B) w dss (l8.drop r).reverse) ∧ Below wx.heap.size wx wr) (fun _ i _ => (intOf i + 1).toNat)
  case atStart => exact ⟨l8.length, [], _, Nat.le_refl _, rfl, rfl, by rw [Nat.sub_self]; exact World.ownsRow_nil _ _ _ _, by rw [List.drop_length]; exact Lists.nil _ _, Below.refl _ _⟩
  case round =>
    obtain ⟨r, dss, z, hrl, rfl, Hz, Hown, HLm, hbr⟩ := hrel
    obtain ⟨wz, rfl⟩ : ∃ w', w' = wr := ⟨wr, rfl⟩
    rcases r with _ | r
    · obtain rfl : z = -1 := by have := Hz.out; omega
      clear Hz
      obtain ⟨ma, mc, rfl⟩ := own_form (n := l8.length) Hown.out
      have xz := blk_later XX.out hbr
      have e0 : wz.cell? ⟨w.heap.size, 0, none⟩ = some (.slice sa S.labels.length sc) := blk_cell xz 0
      have e1 : wz.cell? ⟨w.heap.size, 1, none⟩ = some (.slice oa S.wants.length oc) := blk_cell xz 1
      have oz := own_stays OX.out (fun i _ hi => hbr.block i hi)
      have bz := chain bx hbr
      have lz := blk_lt xz
      obtain ⟨wy, hwy⟩ : ∃ v, v = wz.alloc (.cells #[.slice none 0 0, .slice none 0 0] 25) := ⟨_, rfl⟩
      have sy : wy.heap.size = wz.heap.size + 1 := by rw [hwy, World.size_alloc]
      have y8 : wy.heap[wz.heap.size]? = some (.cells #[.slice none 0 0, .slice none 0 0] 25 (0, 0)) := by rw [hwy]; exact heap_alloc_new _ _
      have by_ : Below wz.heap.size wz wy := by rw [hwy]; exact below_new _ _
      have Y := Lib.hid (show wy = wz.alloc (.cells #[.slice none 0 0, .slice none 0 0] 25) ∧ wy.heap.size = wz.heap.size + 1 ∧ wy.heap[wz.heap.size]? = some (.cells #[.slice none 0 0, .slice none 0 0] 25 (0, 0)) ∧ Below w.heap.size w wy ∧ wy.heap[w.heap.size]? = some (.cells #[.slice sa S.labels.length sc, .slice oa S.wants.length oc] 25 (0, 0)) ∧ wy.ownsRow w1.heap.size 37 3 (.slice oa S.wants.length oc) S.wants.length css.flatten ∧ wy.ownsRow wx.heap.size 43 2 (.slice ma l8.length mc) l8.length dss.flatten from
        ⟨hwy, sy, y8, chain bz by_, blk_later xz by_, own_stays oz (fun i _ hi => by_.block i hi), own_stays (n := l8.length) Hown.out (fun i _ hi => by_.block i hi)⟩)
      clear hwy sy y8 by_ xz oz bz
      go_wp2
      go_loopw [9] (fun i wr => ∃ (r : Nat) (ess : List (List Value)) (va : Option Addr) (vc : Nat) (z : Int), r ≤ S.labels.length ∧ i = .int .i64 z ∧ Hid (z = (r : Int) - 1) ∧ Hid (wr.heap[wz.heap.size]? = some (.cells #[.slice va (S.labels.length - r) vc, .slice none 0 0] 25 (0, 0))) ∧ Hid (wr.ownsRow wy.heap.size 43 2 (.slice va (S.labels.length - r) vc) (S.labels.length - r) ess.flatten) ∧ Hid (Lists (prR B) w ess (S.labels.drop r).reverse) ∧ Hid (Below w.heap.size w wr) ∧ Hid (Kept (fun k => k = wz.heap.size) wy wr)) (fun i _ => (intOf i + 1).toNat)
      case atStart => exact ⟨S.labels.length, [], none, 0, _, Nat.le_refl _, rfl, rfl, by rw [Nat.sub_self, ← Y.out.1]; exact Y.out.2.2.1, by rw [Nat.sub_self]; exact World.ownsRow_nil _ _ _ _, by rw [List.drop_length]; exact Lists.nil _ _, by rw [← Y.out.1]; exact Y.out.2.2.2.1, by rw [← Y.out.1]; exact Kept.refl _ _⟩
      case round =>
        obtain ⟨r, ess, va, vc, z, hrl2, rfl, Hz, H8, Hva, HLe, Hbw, HK⟩ := hrel
        obtain ⟨wv, rfl⟩ : ∃ w', w' = wr := ⟨wr, rfl⟩
        have X2 := HK.out.blk Y.out.2.2.2.2.1 (show ¬ (w.heap.size = wz.heap.size) by omega)
        clear e0 e1
        have e0 : wv.cell? ⟨w.heap.size, 0, none⟩ = some (.slice sa S.labels.length sc) := blk_cell X2 0
        have e1 : wv.cell? ⟨w.heap.size, 1, none⟩ = some (.slice oa S.wants.length oc) := blk_cell X2 1
        have lv := blk_lt X2
        rcases r with _ | r
        · obtain rfl : z = -1 := by have := Hz.out; omega
          clear Hz
          have ox2 : wv.ownsRow w1.heap.size 37 3 (.slice oa S.wants.length oc) S.wants.length css.flatten := HK.out.own Y.out.2.2.2.2.2.1 (own_cell (own_ne Y.out.2.2.2.2.2.1 Y.out.2.2.1 (by decide)))
          have om2 : wv.ownsRow wx.heap.size 43 2 (.slice ma l8.length mc) l8.length dss.flatten := HK.out.own Y.out.2.2.2.2.2.2 (own_cell (own_ne Y.out.2.2.2.2.2.2 Y.out.2.2.1 (by decide)))
          have h82 : wv.heap[wz.heap.size]? = some (.cells #[.slice va S.labels.length vc, .slice none 0 0] 25 (0, 0)) := H8.out
          have ov2 : wv.ownsRow wy.heap.size 43 2 (.slice va S.labels.length vc) S.labels.length ess.flatten := Hva.out
          have X2' : wv.heap[w.heap.size]? = some (.cells #[.slice sa S.labels.length sc, .slice oa S.wants.length oc] 25 (0, 0)) := X2
          have Z := Lib.hid (And.intro ox2 (And.intro om2 (And.intro h82 (And.intro ov2 X2'))))
          clear ox2 om2 h82 ov2 X2 X2' H8 Hva HK Y OX XX Hown
          have lbw := Hbw.out.size
          go_wp2
          go_loopw [10] (fun i wr => ∃ (r : Nat) (fss : List (List Value)) (vb : Option Addr) (vd : Nat) (z : Int), r ≤ S.wants.length ∧ i = .int .i64 z ∧ Hid (z = (r : Int) - 1) ∧ Hid (wr.heap[wz.heap.size]? = some (.cells #[.slice va S.labels.length vc, .slice vb (S.wants.length - r) vd] 25 (0, 0))) ∧ Hid (wr.ownsRow wv.heap.size 37 3 (.slice vb (S.wants.length - r) vd) (S.wants.length - r) fss.flatten) ∧ Hid (Lists (wtR B) w fss (S.wants.drop r).reverse) ∧ Hid (Below w.heap.size w wr) ∧ Hid (Kept (fun k => k = wz.heap.size) wv wr)) (fun i _ => (intOf i + 1).toNat)
          case atStart => exact ⟨S.wants.length, [], none, 0, _, Nat.le_refl _, rfl, rfl, by rw [Nat.sub_self]; exact Z.out.2.2.1, by rw [Nat.sub_self]; exact World.ownsRow_nil _ _ _ _, by rw [List.drop_length]; exact Lists.nil _ _, Hbw.out, Kept.refl _ _⟩
          case round =>
            obtain ⟨r, fss, vb, vd, z, hrl3, rfl, Hz, H8, Hvb, HLf, Hbr, HK⟩ := hrel
            obtain ⟨wt, rfl⟩ : ∃ w', w' = wr := ⟨wr, rfl⟩
            have X3 := HK.out.blk Z.out.2.2.2.2 (show ¬ (w.heap.size = wz.heap.size) by omega)
            clear e0 e1
            have e0 : wt.cell? ⟨w.heap.size, 0, none⟩ = some (.slice sa S.labels.length sc) := blk_cell X3 0
            have e1 : wt.cell? ⟨w.heap.size, 1, none⟩ = some (.slice oa S.wants.length oc) := blk_cell X3 1
            have lt := blk_lt X3
            rcases r with _ | r
            · obtain rfl : z = -1 := by have := Hz.out; omega
              clear Hz
              have ox3 := HK.out.own Z.out.1 (own_cell (own_ne Z.out.1 Z.out.2.2.1 (by decide)))
              have om3 := HK.out.own Z.out.2.1 (own_cell (own_ne Z.out.2.1 Z.out.2.2.1 (by decide)))
              have ov3 := HK.out.own Z.out.2.2.2.1 (own_cell (own_ne Z.out.2.2.2.1 Z.out.2.2.1 (by decide)))
              have h83 : wt.heap[wz.heap.size]? = some (.cells #[.slice va S.labels.length vc, .slice vb S.wants.length vd] 25 (0, 0)) := H8.out
              have g0 : wt.cell? ⟨wz.heap.size, 0, none⟩ = some (.slice va S.labels.length vc) := blk_cell h83 0
              have g1 : wt.cell? ⟨wz.heap.size, 1, none⟩ = some (.slice vb S.wants.length vd) := blk_cell h83 1
              have lt8 := blk_lt h83
              have hA : RowAt B (prR B) wt (.slice sa S.labels.length sc) S.labels := ⟨sa, sc, rfl, hsmc, hsc, by omega, Hsr.out.later Hbr.out⟩
              have hW : RowAt B (wtR B) wt (.slice oa S.wants.length oc) S.wants := RowAt.of_own (r := wtR B) ox3 rfl (HL.out.later Hbr.out) (by omega)
              have hA2 : RowAt B (prR B) wt (.slice va S.labels.length vc) S.labels.reverse := RowAt.of_own (r := prR B) ov3 (List.length_reverse ..).symm (HLe.out.later Hbr.out) (by rw [List.length_reverse]; omega)
              have hW2 : RowAt B (wtR B) wt (.slice vb S.wants.length vd) S.wants.reverse := RowAt.of_own (r := wtR B) Hvb.out (List.length_reverse ..).symm (HLf.out.later Hbr.out) (by rw [List.length_reverse]; omega)
              have hM : RowIn (prR B) wt ma l8.reverse := (RowAt.of_own (B := B) (r := prR B) om3 (List.length_reverse ..).symm (HLm.out.later Hbr.out) (by rw [List.length_reverse]; omega)).inn
              have hN : RowIn (prR B) wt a l8 := Hr8.out.later Hbr.out
              have hmt : nam.MaxL wt := hm.later Hbr.out
              have C1 := Lib.hid (fun W (hW0 : Below wt.heap.size wt W) => Selects_any B hB S _ _ a c l8 (by omega) W (hA.later hW0) (hW.later hW0) (hN.later hW0))
              have C2 := Lib.hid (fun W (hW0 : Below wt.heap.size wt W) => Selects_any B hB ⟨S.labels.reverse, S.wants.reverse⟩ _ _ a c l8 (by omega) W (hA2.later hW0) (hW2.later hW0) (hN.later hW0))
              have C3 := Lib.hid (fun W (hW0 : Below wt.heap.size wt W) => Check_any B hB S _ _ W (hA.later hW0) (hW.later hW0) (hmt.later hW0))
              have C4 := Lib.hid (fun W (hW0 : Below wt.heap.size wt W) => Check_any B hB ⟨S.labels.reverse, S.wants.reverse⟩ _ _ W (hA2.later hW0) (hW2.later hW0) (hmt.later hW0))
              have C5 := Lib.hid (fun W (hW0 : Below wt.heap.size wt W) => Labels_any B hB a c l8 (by omega) W (hN.later hW0) (hmt.later hW0))
              have C6 := Lib.hid (fun W (hW0 : Below wt.heap.size wt W) => by have h := Labels_any B hB ma mc l8.reverse (by rw [List.length_reverse]; omega) W (hM.later hW0) (hmt.later hW0); rw [List.length_reverse, labels_rev] at h; exact h)
              have C7 := Lib.hid (fun W (hW0 : Below wt.heap.size wt W) => by have h := Selects_any B hB S _ _ ma mc l8.reverse (by rw [List.length_reverse]; omega) W (hA.later hW0) (hW.later hW0) (hM.later hW0); rw [List.length_reverse] at h; exact h)
              rw [sel_turn] at C2
              rw [check_turn] at C4
              have hrev : labelsB l8 = true → selB S l8 = selB S l8.reverse := sel_rev S
              clear ox3 om3 ov3 hA hW hA2 hW2 hM hN hmt X3 h83
              have Hbr := Lib.hid Hbr.out
              have bq := Hbr.out
              go_wp2
              have k0 := cell_below lt e0
              have k1 := cell_below lt e1
              have k2 := cell_below lt8 g0
              have k3 := cell_below lt8 g1
              have mixed := mixed
              clear e0 e1 g0 g1 HLe Hbw HLm Hr8 Hsr HL hu ht cf HK HLf Hvb Z hm bq bx H8
              generalize selB S l8.reverse = p2 at *
              generalize selB S l8 = p at *
              generalize checkB S = q at *
              generalize labelsB l8 = lb at *
              cases lb with
              | false =>
                clear hrev
                refine wp_region_quiet_below (by assumption) (by kernel_rfl) ?_
                iterate 28 (refine wpQuiet_step (fun K hK => ?_); go_simp; first
                  | (generalize hact : (⟨_, _⟩ : Act) = act; refine hK act ?_; subst hact; clear hK K)
                  | (apply Exists.intro; refine ⟨fun _ => ?_, ?_⟩; (first
                    | (go_at_call 20; (with_reducible show Calls Tryd.prog 20 #[.agg #[.slice sa S.labels.length sc, .slice oa S.wants.length oc], .slice a l8.length c] _ _); exact calls_below (C1.out _ (below_of_grown _ _)))
                    | (go_at_call 20; (with_reducible show Calls Tryd.prog 20 #[.agg #[.slice va S.labels.length vc, .slice vb S.wants.length vd], .slice a l8.length c] _ _); exact calls_below (C2.out _ (below_of_grown _ _)))
                    | (go_at_call 16; (with_reducible show Calls Tryd.prog 16 #[.agg #[.slice sa S.labels.length sc, .slice oa S.wants.length oc]] _ _); exact calls_below (C3.out _ (below_of_grown _ _)))
                    | (go_at_call 16; (with_reducible show Calls Tryd.prog 16 #[.agg #[.slice va S.labels.length vc, .slice vb S.wants.length vd]] _ _); exact calls_below (C4.out _ (below_of_grown _ _)))
                    | (go_at_call 18; (with_reducible show Calls Tryd.prog 18 #[.slice a l8.length c] _ _); exact calls_below (C5.out _ (below_of_grown _ _)))
                    | (go_at_call 18; (with_reducible show Calls Tryd.prog 18 #[.slice ma l8.length mc] _ _); exact calls_below (C6.out _ (below_of_grown _ _)))
                    | (go_at_call 20; (with_reducible show Calls Tryd.prog 20 #[.agg #[.slice sa S.labels.length sc, .slice oa S.wants.length oc], .slice ma l8.length mc] _ _); exact calls_below (C7.out _ (below_of_grown _ _))))
                     generalize hact : (⟨_, _⟩ : Act) = act; refine hK act ?_; subst hact; clear hK K))
                refine wpQuiet_step (fun K hK => ?_)
                go_simp
                generalize hact : (⟨_, _⟩ : Act) = act
                refine hK act ?_
                clear hK K
                iterate 7 refine wpQuiet_skip (by rw [← hact]; kernel_rfl) (by rw [← hact]; kernel_rfl) ?_
                subst hact
                iterate 3 (refine wpQuiet_step (fun K hK => ?_); go_simp; first
                  | (generalize hact : (⟨_, _⟩ : Act) = act; refine hK act ?_; subst hact; clear hK K)
                  | (apply Exists.intro; refine ⟨fun _ => ?_, ?_⟩; (first
                    | (go_at_call 20; (with_reducible show Calls Tryd.prog 20 #[.agg #[.slice sa S.labels.length sc, .slice oa S.wants.length oc], .slice a l8.length c] _ _); exact calls_below (C1.out _ (below_of_grown _ _)))
                    | (go_at_call 20; (with_reducible show Calls Tryd.prog 20 #[.agg #[.slice va S.labels.length vc, .slice vb S.wants.length vd], .slice a l8.length c] _ _); exact calls_below (C2.out _ (below_of_grown _ _)))
                    | (go_at_call 16; (with_reducible show Calls Tryd.prog 16 #[.agg #[.slice sa S.labels.length sc, .slice oa S.wants.length oc]] _ _); exact calls_below (C3.out _ (below_of_grown _ _)))
                    | (go_at_call 16; (with_reducible show Calls Tryd.prog 16 #[.agg #[.slice va S.labels.length vc, .slice vb S.wants.length vd]] _ _); exact calls_below (C4.out _ (below_of_grown _ _)))
                    | (go_at_call 18; (with_reducible show Calls Tryd.prog 18 #[.slice a l8.length c] _ _); exact calls_below (C5.out _ (below_of_grown _ _)))
                    | (go_at_call 18; (with_reducible show Calls Tryd.prog 18 #[.slice ma l8.length mc] _ _); exact calls_below (C6.out _ (below_of_grown _ _)))
                    | (go_at_call 20; (with_reducible show Calls Tryd.prog 20 #[.agg #[.slice sa S.labels.length sc, .slice oa S.wants.length oc], .slice ma l8.length mc] _ _); exact calls_below (C7.out _ (below_of_grown _ _))))
                     generalize hact : (⟨_, _⟩ : Act) = act; refine hK act ?_; subst hact; clear hK K))
                refine wpQuiet_nil ?_
                intro _ hw'
                obtain ⟨⟨nq, osq⟩, hw''⟩ := hw'
                subst hw''
                go_wp2_with fail
                go_ret
                exact ⟨rfl, chain Hbr.out (below_of_grown nq osq)⟩
              | true =>
                obtain rfl := hrev rfl
                clear hrev
                refine wp_region_quiet_below (by assumption) (by kernel_rfl) ?_
                repeat (refine wpQuiet_step (fun K hK => ?_); go_simp; first
                  | (generalize hact : (⟨_, _⟩ : Act) = act; refine hK act ?_; subst hact; clear hK K)
                  | (apply Exists.intro; refine ⟨fun _ => ?_, ?_⟩; (first
                    | (go_at_call 20; (with_reducible show Calls Tryd.prog 20 #[.agg #[.slice sa S.labels.length sc, .slice oa S.wants.length oc], .slice a l8.length c] _ _); exact calls_below (C1.out _ (below_of_grown _ _)))
                    | (go_at_call 20; (with_reducible show Calls Tryd.prog 20 #[.agg #[.slice va S.labels.length vc, .slice vb S.wants.length vd], .slice a l8.length c] _ _); exact calls_below (C2.out _ (below_of_grown _ _)))
                    | (go_at_call 16; (with_reducible show Calls Tryd.prog 16 #[.agg #[.slice sa S.labels.length sc, .slice oa S.wants.length oc]] _ _); exact calls_below (C3.out _ (below_of_grown _ _)))
                    | (go_at_call 16; (with_reducible show Calls Tryd.prog 16 #[.agg #[.slice va S.labels.length vc, .slice vb S.wants.length vd]] _ _); exact calls_below (C4.out _ (below_of_grown _ _)))
                    | (go_at_call 18; (with_reducible show Calls Tryd.prog 18 #[.slice a l8.length c] _ _); exact calls_below (C5.out _ (below_of_grown _ _)))
                    | (go_at_call 18; (with_reducible show Calls Tryd.prog 18 #[.slice ma l8.length mc] _ _); exact calls_below (C6.out _ (below_of_grown _ _)))
                    | (go_at_call 20; (with_reducible show Calls Tryd.prog 20 #[.agg #[.slice sa S.labels.length sc, .slice oa S.wants.length oc], .slice ma l8.length mc] _ _); exact calls_below (C7.out _ (below_of_grown _ _))))
                     generalize hact : (⟨_, _⟩ : Act) = act; refine hK act ?_; subst hact; clear hK K))
                refine wpQuiet_nil ?_
                intro _ hw'
                obtain ⟨⟨nq, osq⟩, hw''⟩ := hw'
                subst hw''
                go_wp2_with fail
                go_ret
                exact ⟨rfl, chain Hbr.out (below_of_grown nq osq)⟩
            · obtain rfl : z = (r : Int) := by have := Hz.out; omega
              clear Hz
              have hrlt3 : r < S.wants.length := by omega
              have ox3 := HK.out.own Z.out.1 (own_cell (own_ne Z.out.1 Z.out.2.2.1 (by decide)))
              obtain ⟨b, cs, rfl, hbl, hat, hcell⟩ := own_get ox3 HL.out hrlt3 rfl rfl
              have Hat := hat
              obtain ⟨y, hcs, hv1, hv2, hy3⟩ := hat
              subst hcs
              obtain ⟨ya, yc, rfl, _⟩ := hy3
              have c0 : wt.cell? ⟨b, r * 3, none⟩ = some (.string S.wants[r].key) := hcell 0 _ rfl
              have c1 : wt.cell? ⟨b, r * 3 + 1, none⟩ = some (.string S.wants[r].how) := hcell 1 _ rfl
              have c2 : wt.cell? ⟨b, r * 3 + 2, none⟩ = some (.slice ya S.wants[r].vals.length yc) := hcell 2 _ rfl
              have Hat := Lib.hid Hat
              have e8 : wt.cell? ⟨wz.heap.size, 1, none⟩ = some (.slice vb (S.wants.length - (r + 1)) vd) := blk_cell H8.out 1
              have f8 := blk_frozen H8.out 1
              have l8' := blk_lt H8.out
              have lky := HK.out.1
              have irl : (r : Int) < (S.wants.length : Int) := by omega
              have hn : S.wants.length - (r + 1) + 1 = S.wants.length - r := by omega
              clear hcell ox3
              go_wp2
              go_region_law (first
                | (go_loud (refine step_append_lies _ (by rfl) (.tmp 58) (.tmp 64) 23 (by rfl) wv.heap.size 37 j0 _ 3 56 Tryd.underlying23 hj0 hy0 hy1 hy2 rfl (by decide) (.slice vb (S.wants.length - (r + 1)) vd) (S.wants.length - (r + 1)) fss.flatten (by rfl) (Hvb.out.alloc _) ⟨wt.heap.size, 0, none⟩ 1 1 [.string S.wants[r].key, .string S.wants[r].how, .slice ya S.wants[r].vals.length yc] (by rfl) (by rfl) (cells_new (w := wt) rfl #[.string S.wants[r].key, .string S.wants[r].how, .slice ya S.wants[r].vals.length yc] _) (by intro u hu; simp only [List.mem_cons, List.not_mem_nil, or_false] at hu; rcases hu with rfl | rfl | rfl <;> rfl) (by decide) (by unfold maxLen; omega) (by omega) (by simp; omega) (wt.heap.size + 1) (by simp) ?_); intro g6 cap6 w6 hown6 hg6 _ _; have m8 := (Kept.grown hg6).blk (blk_alloc H8.out (.cells #[.string S.wants[r].key, .string S.wants[r].how, .slice ya S.wants[r].vals.length yc] 37)) (own_ne (Hvb.out.alloc (.cells #[.string S.wants[r].key, .string S.wants[r].how, .slice ya S.wants[r].vals.length yc] 37)) (blk_alloc H8.out (.cells #[.string S.wants[r].key, .string S.wants[r].how, .slice ya S.wants[r].vals.length yc] 37)) (by decide)); have v8 : w6.cell? ⟨wz.heap.size, 1, none⟩ = some (.slice vb (S.wants.length - (r + 1)) vd) := blk_cell m8 1; have fr8 := blk_frozen m8 1; have H6 := Lib.hid (And.intro hown6 (And.intro hg6 m8)); clear hown6 hg6 m8))
              all_goals go_wp2_with fail
              all_goals go_roundw
              all_goals try (simp [intOf]; done)
              all_goals (refine ⟨r, fss ++ [[.string S.wants[r].key, .string S.wants[r].how, .slice ya S.wants[r].vals.length yc]], some ⟨g6, 0, none⟩, cap6, _, by omega, rfl, rfl, ?_, ?_, ?_, ?_, ?_⟩)
              all_goals first
                | exact blk_set H6.out.2.2 1 _
                | (have h8 := own_flat H6.out.1 [[.string S.wants[r].key, .string S.wants[r].how, .slice ya S.wants[r].vals.length yc]] rfl; rw [hn] at h8; exact own_set h8 H6.out.2.2 (by decide) 1 _)
                | (rw [drop_rev hrlt3]; exact HLf.out.append (Lists.one Hat.out))
                | exact grew_below Hbr.out Hvb.out (below_alloc_drew _ _) (Nat.le_of_lt lv) H6.out.2.1 (Nat.le_of_lt lz)
                | exact grew HK.out Hvb.out (below_alloc_drew _ _) (Nat.le_refl _) H6.out.2.1
        · obtain rfl : z = (r : Int) := by have := Hz.out; omega
          clear Hz
          have hrlt2 : r < S.labels.length := by omega
          obtain ⟨b, off, rfl, hbl, cs, hat, hcell⟩ := Hsr.out.get hrlt2
          obtain ⟨hcs, hv1, hv2⟩ := hat
          subst hcs
          have c0 : wv.cell? ⟨b, off + r * 2, none⟩ = some (.string S.labels[r].key) := (Hbw.out.cell (p := ⟨b, off + r * 2, none⟩) hbl).trans (hcell 0 _ rfl)
          have c1 : wv.cell? ⟨b, off + r * 2 + 1, none⟩ = some (.string S.labels[r].value) := (Hbw.out.cell (p := ⟨b, off + r * 2 + 1, none⟩) hbl).trans (hcell 1 _ rfl)
          have hat2 := Lib.hid (pr_at (B := B) (W := w) hv1 hv2)
          have e8 : wv.cell? ⟨wz.heap.size, 0, none⟩ = some (.slice va (S.labels.length - (r + 1)) vc) := blk_cell H8.out 0
          have f8 := blk_frozen H8.out 0
          have l8' := blk_lt H8.out
          have lbw := Nat.lt_of_lt_of_le hbl Hbw.out.size
          have lky := HK.out.1
          have irl : (r : Int) < (S.labels.length : Int) := by omega
          have hn : S.labels.length - (r + 1) + 1 = S.labels.length - r := by omega
          have lwy : w.heap.size ≤ wy.heap.size := by rw [Y.out.2.1]; omega
          clear hcell
          go_wp2
          go_region_law (first
            | (go_loud (refine step_append_lies _ (by rfl) (.tmp 40) (.tmp 46) 22 (by rfl) wy.heap.size 43 i0 _ 2 32 Tryd.underlying22 hi0 hz0 hz1 hz2 rfl (by decide) (.slice va (S.labels.length - (r + 1)) vc) (S.labels.length - (r + 1)) ess.flatten (by rfl) (Hva.out.alloc _) ⟨wv.heap.size, 0, none⟩ 1 1 [.string S.labels[r].key, .string S.labels[r].value] (by rfl) (by rfl) (cells_new (w := wv) rfl #[.string S.labels[r].key, .string S.labels[r].value] _) (by intro u hu; simp only [List.mem_cons, List.not_mem_nil, or_false] at hu; rcases hu with rfl | rfl <;> rfl) (by decide) (by unfold maxLen; omega) (by omega) (by simp; omega) (wv.heap.size + 1) (by simp) ?_); intro g6 cap6 w6 hown6 hg6 _ _; have m8 := (Kept.grown hg6).blk (blk_alloc H8.out (.cells #[.string S.labels[r].key, .string S.labels[r].value] 43)) (own_ne (Hva.out.alloc (.cells #[.string S.labels[r].key, .string S.labels[r].value] 43)) (blk_alloc H8.out (.cells #[.string S.labels[r].key, .string S.labels[r].value] 43)) (by decide)); have v8 : w6.cell? ⟨wz.heap.size, 0, none⟩ = some (.slice va (S.labels.length - (r + 1)) vc) := blk_cell m8 0; have fr8 := blk_frozen m8 0; have H6 := Lib.hid (And.intro hown6 (And.intro hg6 m8)); clear hown6 hg6 m8))
          all_goals go_wp2_with fail
          all_goals go_roundw
          all_goals try (simp [intOf]; done)
          all_goals (refine ⟨r, ess ++ [[.string S.labels[r].key, .string S.labels[r].value]], some ⟨g6, 0, none⟩, cap6, _, by omega, rfl, rfl, ?_, ?_, ?_, ?_, ?_⟩)
          all_goals first
            | exact blk_set H6.out.2.2 0 _
            | (have h8 := own_flat H6.out.1 [[.string S.labels[r].key, .string S.labels[r].value]] rfl; rw [hn] at h8; exact own_set h8 H6.out.2.2 (by decide) 0 _)
            | (rw [drop_rev hrlt2]; exact HLe.out.append (Lists.one hat2.out))
            | exact grew_below Hbw.out Hva.out (below_alloc_drew _ _) lwy H6.out.2.1 (Nat.le_of_lt lz)
            | exact grew HK.out Hva.out (below_alloc_drew _ _) (Nat.le_refl _) H6.out.2.1
    · obtain rfl : z = (r : Int) := by have := Hz.out; omega
      clear Hz
      have hrlt : r < l8.length := by omega
      obtain ⟨b, off, rfl, hbl, cs, hat, hcell⟩ := Hr8.out.get hrlt
      obtain ⟨hcs, hv1, hv2⟩ := hat
      subst hcs
      have bw := chain bx hbr
      have c0 : wz.cell? ⟨b, off + r * 2, none⟩ = some (.string l8[r].key) := (bw.cell (p := ⟨b, off + r * 2, none⟩) hbl).trans (hcell 0 _ rfl)
      have c1 : wz.cell? ⟨b, off + r * 2 + 1, none⟩ = some (.string l8[r].value) := (bw.cell (p := ⟨b, off + r * 2 + 1, none⟩) hbl).trans (hcell 1 _ rfl)
      have hat2 := Lib.hid (pr_at (B := B) (W := w) hv1 hv2)
      clear hcell
      go_wp2_with (at_builtin; refine wpList_append_own_at (o := ⟨some 29, _, _, _, _, _⟩) _ rfl _ _ 22 rfl wx.heap.size 43 i0 _ 2 32 Tryd.underlying22 hi0 hz0 hz1 hz2 rfl (by decide) _ (l8.length - (r + 1)) dss.flatten rfl (Hown.out.alloc _) ⟨wz.heap.size, 0, none⟩ 1 1 [.string l8[r].key, .string l8[r].value] rfl rfl (cells_new rfl _ _) (by intro u hu; simp only [List.mem_cons, List.not_mem_nil, or_false] at hu; rcases hu with rfl | rfl <;> rfl) (by unfold maxLen; omega) (by omega) (by have := hbr.size; simp; omega) ?_; intro v' w5 hown5 hg5 _ _; have b5 : Below wx.heap.size wx w5 := below_own (chain hbr (below_new wz _)) hg5 (Hown.out.alloc _) (Nat.le_refl _); clear hg5)
      go_roundw
      case rel => exact ⟨r, dss ++ [[.string l8[r].key, .string l8[r].value]], _, by omega, rfl, rfl, Lib.hid (by have := own_flat hown5 [[.string l8[r].key, .string l8[r].value]] rfl; rwa [show l8.length - (r + 1) + 1 = l8.length - r by omega] at this), by rw [drop_rev hrlt]; exact HLm.out.append (Lists.one hat2.out), b5⟩
      case measure => simp [intOf]
end Go.Proofs.YtodobacgbbpmfaaDoor.lab
