/- Layer 4: the law TreeCanon. -/
import Derived.Deep.AppendLies
import Derived.Deep.RegionLaw
import Derived.Laws.OwnMore
import Derived.Test.YtdggehikimnemaaDoorTrmBackP
import Derived.Test.YtdggehikimnemaaDoorTrmInsert
import Derived.Test.YtdggehikimnemaaDoorTrmLess
import Derived.Test.YtdggehikimnemaaDoorTrmQuiet
import Derived.Test.YtdggehikimnemaaDoorTrmSame
import Derived.Test.YtdggehikimnemaaDoorTrmShaped
namespace Go.Proofs.YtdggehikimnemaaDoor.tre
open Go.RowKit Go.Shelf

theorem rev_take (l : List (ByteArray × V)) (k j : Nat) (h : l.length = k + 1 + j) (hj : j < l.length) : l.reverse.take (k + 1) = l.reverse.take k ++ [l[j]] := by
  rw [List.take_succ_eq_append_getElem (by simp; omega), List.getElem_reverse]
  congr 2
  congr 1
  omega
set_option maxRecDepth 100000 in
set_option maxHeartbeats 8000000 in
theorem lawCanon (a : Option Addr) (c : Nat) (l : List It) {W : World} (h : ItemsIn W a l) (hT : utf.Tab W) :
    Calls Tryd.prog 8 #[.slice a l.length c] W fun e w' => e = .returned (.bool true) ∧ Below W.heap.size W w' := by
  have haw := awake_any W hT
  have hsh := fun w1 (hb : Below W.heap.size W w1) => shaped_any a c l (h.later hb)
  have H := Lib.hid (And.intro hsh hT)
  clear hsh hT h
  go_enter Tryd.func8, Tryd.ntmps8
  go_wp2_with fail
  refine haw.mono ?_
  rintro e w1 ⟨rfl, hb1⟩
  have H1 := Lib.hid hb1
  clear hb1 haw
  go_wp2_with fail
  refine (H.out.1 w1 H1.out).mono ?_
  rintro e w2 ⟨v, px, ⟨qa, qn, qc⟩, rfl, hv⟩
  have hb02 := H1.out.trans (hv.out.2.2.2.mono H1.out.size)
  obtain ⟨hd12, hc2k, hshape⟩ := check_parts hv.out.1
  have hok := ok_of_check hv.out.1
  have hv2 : HV (fun g => W.heap.size ≤ g ∧ g < w2.heap.size) w2 v px ⟨qa, qn, qc⟩ := hv.out.2.2.1.map (fun k hk hl => ⟨⟨by have := H1.out.size; omega, hl⟩, rfl⟩)
  have hqn : qn = v.fields.length := hv2.2.len
  subst hqn
  have hfl : v.fields.length ≤ 100000 := ((okC_eq v).1 hok).2.1
  have H2 := Lib.hid (And.intro hb02 (And.intro hv2 hok))
  have Hd := Lib.hid (And.intro hd12 hc2k)
  clear hv hb02 hok hv2 hshape hd12 hc2k
  go_wp2_with fail
  go_loopg [6] v.fields.length (fun gg s6 wr => ∃ (k : Nat) (z : Int) (q : Sl) (yss : List (List Value)), k ≤ v.fields.length ∧ v.fields.length - k ≤ gg ∧ s6 = .int .i64 z ∧ z = (v.fields.length : Int) - 1 - k ∧
    Hid (wr.heap[w2.heap.size]? = some (.cells #[.int .i64 v.kind, .int .i64 v.int, .string v.text, .slice px.a px.n px.c, .slice qa v.fields.length qc] 28 (0, 0)) ∧ wr.heap[w2.heap.size + 1]? = some (.cells #[.int .i64 v.kind, .int .i64 v.int, .string v.text, .slice px.a px.n px.c, .slice q.a q.n q.c] 28 (0, 0)) ∧ wr.ownsRow (w2.heap.size + 2) 36 6 (.slice q.a q.n q.c) k yss.flatten ∧ Cop (fun g => W.heap.size ≤ g ∧ g < w2.heap.size) w2 (v.fields.reverse.take k) yss ∧ Below w2.heap.size w2 wr))
  case atStart =>
    have h0 := block_new2 w2 (.cells #[.int .i64 v.kind, .int .i64 v.int, .string v.text, .slice px.a px.n px.c, .slice qa v.fields.length qc] 28) (.cells #[.int .i64 v.kind, .int .i64 v.int, .string v.text, .slice px.a px.n px.c, .slice none 0 0] 28)
    exact ⟨0, _, ⟨none, 0, 0⟩, [], Nat.zero_le _, by omega, rfl, by first | omega | (rw [IntWalk.i64_in _ (by omega)]; omega), h0.1, h0.2, World.ownsRow_nil _ _ _ _, Cop.nil _ _, ((Below.refl _ _).alloc (Nat.le_refl _) _).alloc (by rw [size_alloc]; omega) _⟩
  case round =>
    obtain ⟨k, z, q, yss, hkn, hgg, rfl, hz, HL⟩ := hrel
    have l0 := (Array.getElem?_eq_some_iff.1 HL.out.1).1
    have l1 := (Array.getElem?_eq_some_iff.1 HL.out.2.1).1
    have k0 : wr.cell? ⟨w2.heap.size, 0, none⟩ = some (.int .i64 v.kind) := by rw [blk_cell HL.out.1]; rfl
    have k1 : wr.cell? ⟨w2.heap.size, 1, none⟩ = some (.int .i64 v.int) := by rw [blk_cell HL.out.1]; rfl
    have k2 : wr.cell? ⟨w2.heap.size, 2, none⟩ = some (.string v.text) := by rw [blk_cell HL.out.1]; rfl
    have k3 : wr.cell? ⟨w2.heap.size, 3, none⟩ = some (.slice px.a px.n px.c) := by rw [blk_cell HL.out.1]; rfl
    have k4 : wr.cell? ⟨w2.heap.size, 4, none⟩ = some (.slice qa v.fields.length qc) := by rw [blk_cell HL.out.1]; rfl
    by_cases hlt : k < v.fields.length
    · obtain ⟨j, hj⟩ : ∃ j : Nat, v.fields.length = k + 1 + j := ⟨v.fields.length - 1 - k, by omega⟩
      obtain rfl : z = (j : Int) := by omega
      have hjl : j < v.fields.length := by omega
      have hjz : (j : Int) < (v.fields.length : Int) := by omega
      have hjp : ((j : Nat) : Int) ≥ 0 := by omega
      have hrt := rev_take v.fields k j hj hjl
      obtain ⟨g, r', t', hta, hg, hSg, hc, hhx⟩ := H2.out.2.1.2.at hjl
      simp only at hta
      subst hta
      generalize v.fields[j] = f at hc hhx hrt
      have hbw := HL.out.2.2.2.2
      have c0 := (hbw.cell (p := ⟨g, j * 6, none⟩) (by exact hg)).trans (hc 0 _ rfl)
      have c1 := (hbw.cell (p := ⟨g, j * 6 + 1, none⟩) (by exact hg)).trans (hc 1 _ rfl)
      have c2 := (hbw.cell (p := ⟨g, j * 6 + 2, none⟩) (by exact hg)).trans (hc 2 _ rfl)
      have c3 := (hbw.cell (p := ⟨g, j * 6 + 3, none⟩) (by exact hg)).trans (hc 3 _ rfl)
      have c4 := (hbw.cell (p := ⟨g, j * 6 + 4, none⟩) (by exact hg)).trans (hc 4 _ rfl)
      have c5 := (hbw.cell (p := ⟨g, j * 6 + 5, none⟩) (by exact hg)).trans (hc 5 _ rfl)
      have o0 : wr.cell? ⟨w2.heap.size + 1, 0, none⟩ = some (.int .i64 v.kind) := by rw [blk_cell HL.out.2.1]; rfl
      have o1 : wr.cell? ⟨w2.heap.size + 1, 1, none⟩ = some (.int .i64 v.int) := by rw [blk_cell HL.out.2.1]; rfl
      have o2 : wr.cell? ⟨w2.heap.size + 1, 2, none⟩ = some (.string v.text) := by rw [blk_cell HL.out.2.1]; rfl
      have o3 : wr.cell? ⟨w2.heap.size + 1, 3, none⟩ = some (.slice px.a px.n px.c) := by rw [blk_cell HL.out.2.1]; rfl
      have o4 : wr.cell? ⟨w2.heap.size + 1, 4, none⟩ = some (.slice q.a q.n q.c) := by rw [blk_cell HL.out.2.1]; rfl
      have fo4 := blk_frozen HL.out.2.1 4
      have lg : g < wr.heap.size := Nat.lt_of_lt_of_le hg hbw.size
      have hownA := fun o => (HL.out.2.2.1).alloc o
      have HJ := Lib.hid (And.intro hj (And.intro hrt hhx))
      have hk100 : k < 100000 := by omega
      obtain ⟨i0', hi0, hz0, hz1, hz2⟩ := info_of info_F
      clear hz hj hrt hhx hc hSg hbw
      go_wp2_with fail
      go_region_law (first
        | (refine step_append_lies _ (by rfl) (.tmp 25) (.tmp 31) 26 (by rfl) (w2.heap.size + 2) 36 i0' zeroF 6 96 Tryd.underlying26 hi0 hz0 hz1 hz2 rfl (by decide) (.slice q.a q.n q.c) k yss.flatten (by rfl) (hownA _) ⟨wr.heap.size, 0, none⟩ 1 1 [.string f.1, .int .i64 f.2.kind, .int .i64 f.2.int, .string f.2.text, .slice r'.a r'.n r'.c, .slice t'.a t'.n t'.c] (by rfl) (by rfl) (World.news_of_block (cs := #[.string f.1, .int .i64 f.2.kind, .int .i64 f.2.int, .string f.2.text, .slice r'.a r'.n r'.c, .slice t'.a t'.n t'.c]) (t := 36) (fr := (0, 0)) (block_new wr _)) (by simp [Value.oneCell']) (by decide) (by unfold maxLen; omega) (by omega) (by simp; omega) (wr.heap.size + 1) (by simp) ?_; intro g' cap' w6 hown6 hgrow6 hat6 hlt6; have hb6 : Below w2.heap.size wr w6 := ((Below.refl w2.heap.size wr).alloc (Nat.le_of_lt l0) (.cells #[.string f.1, .int .i64 f.2.kind, .int .i64 f.2.int, .string f.2.text, .slice r'.a r'.n r'.c, .slice t'.a t'.n t'.c] 36)).drew.grown hgrow6 (by simp; omega) (fun e he => by have := (HL.out.2.2.1.lt e he).1; omega); have m6 := (hgrow6.block (w2.heap.size + 1) (by simp; omega) (fun e => by have := (HL.out.2.2.1.lt _ e.symm).1; omega)).trans ((block_old l1).trans HL.out.2.1); have m6v := (hgrow6.block (w2.heap.size) (by simp; omega) (fun e => by have := (HL.out.2.2.1.lt _ e.symm).1; omega)).trans ((block_old l0).trans HL.out.1); have p64 : w6.cell? ⟨w2.heap.size + 1, 4, none⟩ = some (.slice q.a q.n q.c) := (by rw [blk_cell m6]; rfl); have fr6 := blk_frozen m6 4; have l6 := (Array.getElem?_eq_some_iff.1 m6).1; have H6 := Lib.hid (And.intro hown6 (And.intro m6 (And.intro m6v hb6))); clear hown6 hgrow6 hat6 m6 m6v hb6))
      all_goals
        go_wp2_with fail
        go_roundg (v.fields.length - (k + 1))
        case measure => omega
        case rel =>
          refine ⟨k + 1, (j : Int) - 1, ⟨some ⟨g', 0, none⟩, k + 1, cap'⟩, yss ++ [cellsF f r' t'], by omega, by omega, by go_num, by have := HJ.out.1; omega, (blk_far (show w2.heap.size ≠ w2.heap.size + 1 by omega)).trans H6.out.2.2.1, blk_set H6.out.2.1 4 _, ?_, ?_, (HL.out.2.2.2.2.trans H6.out.2.2.2).setCell (p := ⟨w2.heap.size + 1, 4, none⟩) (show w2.heap.size ≤ w2.heap.size + 1 by omega) _⟩
          · rw [List.flatten_append]
            refine own_stay (w := w6) (by simpa [cellsF] using H6.out.1) (fun g1 _ _ hB => blk_far (show g1 ≠ w2.heap.size + 1 by omega))
          · rw [HJ.out.2.1]
            exact HL.out.2.2.2.1.snoc HJ.out.2.2
    · obtain rfl : k = v.fields.length := by omega
      obtain rfl : z = -1 := by omega
      clear hz
      have hbw := HL.out.2.2.2.2
      have hcop := HL.out.2.2.2.1
      rw [List.take_of_length_le (by simp)] at hcop
      have hown := HL.out.2.2.1
      have hvr : HV (fun g => g < wr.heap.size) wr v px ⟨qa, v.fields.length, qc⟩ := H2.out.2.1.map (fun g hg hl => ⟨Nat.lt_of_lt_of_le hl hbw.size, hbw.block g hl⟩)
      have hrv : HV (fun g => g < wr.heap.size) wr (.mk v.kind v.int v.text v.list v.fields.reverse) px q := ⟨hvr.1, hcop.row (B := w2.heap.size + 2) (q := q) (by rw [List.length_reverse]; exact hown) (fun g hg hl => ⟨Nat.lt_of_lt_of_le hl hbw.size, hbw.block g hl⟩) (fun g hg => (hown.lt g hg).2)⟩
      have hb0 : Below W.heap.size W wr := H2.out.1.trans (hbw.mono H2.out.1.size)
      have H3 := Lib.hid (And.intro hb0 (And.intro hvr (And.intro hrv (And.intro HL.out.1 HL.out.2.1))))
      clear hbw hcop hown hvr hrv hb0 HL
      go_wp2_with fail
      refine (Canon_any v H2.out.2.2 _ wr px ⟨qa, v.fields.length, qc⟩ (fun g hg => hg) H3.out.2.1).mono ?_
      rintro e w3 ⟨pc, ⟨qca, qcn, qcc⟩, rfl, hB3, hb3⟩
      have hcv : HV (fun g => g < w3.heap.size) w3 (canonV v) pc ⟨qca, qcn, qcc⟩ := hB3.hv.map (fun k _ hl => ⟨hl, rfl⟩)
      have hqcn : qcn = (canonV v).fields.length := hcv.2.len
      have hmx := hcv.2.max
      obtain ⟨m, hm⟩ : ∃ m, m = qcn := ⟨_, rfl⟩
      subst hm
      rw [← hqcn] at hmx
      have mV := (hb3.block _ l0).trans H3.out.2.2.2.1
      have mW := (hb3.block _ l1).trans H3.out.2.2.2.2
      have hb03 := H3.out.1.trans (hb3.mono H3.out.1.size)
      have H4 := Lib.hid (And.intro hb03 (And.intro hcv (And.intro (H3.out.2.1.map (S' := fun g => g < w3.heap.size) (w' := w3) (fun k hk hl => ⟨Nat.lt_of_lt_of_le hl hb3.size, hb3.block k hl⟩)) (And.intro (H3.out.2.2.1.map (S' := fun g => g < w3.heap.size) (w' := w3) (fun k hk hl => ⟨Nat.lt_of_lt_of_le hl hb3.size, hb3.block k hl⟩)) (And.intro mV mW)))))
      have Hm := Lib.hid hqcn
      have l03 : w2.heap.size < w3.heap.size := (Array.getElem?_eq_some_iff.1 mV).1
      have l13 : w2.heap.size + 1 < w3.heap.size := (Array.getElem?_eq_some_iff.1 mW).1
      clear hb3 hB3 hcv hqcn mV mW hb03 k0 k1 k2 k3 k4 l0 l1
      obtain ⟨wo, rfl⟩ : ∃ w', w' = wr := ⟨wr, rfl⟩
      go_wp2_with fail
      go_loopg [8] (m + 1) (fun gg s8 wr => ∃ i : Nat, 1 ≤ i ∧ i ≤ m + 1 ∧ m + 1 - i ≤ gg ∧ s8 = .int .i64 i ∧ Hid (Below (w3.heap.size + 1) (w3.alloc (.cells #[.int .i64 v.kind, .int .i64 v.int, .string v.text, .slice pc.a pc.n pc.c, .slice qca m qcc] 28)) wr))
      case atStart => exact ⟨1, Nat.le_refl _, by omega, by omega, rfl, Below.refl _ _⟩
      case round =>
        obtain ⟨i, hi1, him, hgg, rfl, HI⟩ := hrel
        have mC := (HI.out.block (w3.heap.size) (by omega)).trans (block_new w3 (.cells #[.int .i64 v.kind, .int .i64 v.int, .string v.text, .slice pc.a pc.n pc.c, .slice qca m qcc] 28))
        have lC := (Array.getElem?_eq_some_iff.1 mC).1
        have c0 : wr.cell? ⟨w3.heap.size, 0, none⟩ = some (.int .i64 v.kind) := by rw [blk_cell mC]; rfl
        have c1 : wr.cell? ⟨w3.heap.size, 1, none⟩ = some (.int .i64 v.int) := by rw [blk_cell mC]; rfl
        have c2 : wr.cell? ⟨w3.heap.size, 2, none⟩ = some (.string v.text) := by rw [blk_cell mC]; rfl
        have c3 : wr.cell? ⟨w3.heap.size, 3, none⟩ = some (.slice pc.a pc.n pc.c) := by rw [blk_cell mC]; rfl
        have c4 : wr.cell? ⟨w3.heap.size, 4, none⟩ = some (.slice qca m qcc) := by rw [blk_cell mC]; rfl
        by_cases hlt : i < m
        · obtain ⟨i1, rfl⟩ : ∃ i1, i = i1 + 1 := ⟨i - 1, by omega⟩
          have hltz : ((i1 + 1 : Nat) : Int) < (m : Int) := by omega
          have hltz1 : (i1 : Int) < (m : Int) := by omega
          have hlen := Hm.out
          have hl1 : i1 < (canonV v).fields.length := by omega
          have hl2 : i1 + 1 < (canonV v).fields.length := by omega
          have hb3r : Below w3.heap.size w3 wr := ((Below.refl w3.heap.size w3).alloc (Nat.le_refl _) _).trans (HI.out.mono (Nat.le_succ _))
          obtain ⟨g1, r1, t1, ha1, hg1, -, hd1, -⟩ := (H4.out.2.1.2.later hb3r).at hl1
          obtain ⟨g2, r2, t2, ha2, hg2, -, hd2, -⟩ := (H4.out.2.1.2.later hb3r).at hl2
          have hinc := inc_at (canon_inc v H2.out.2.2) hl1 hl2 (Nat.lt_succ_self _)
          simp only at ha1 ha2
          subst ha1
          obtain rfl : g1 = g2 := by injection ha2 with e; injection e
          generalize (canonV v).fields[i1] = x at hd1 hinc
          generalize (canonV v).fields[i1 + 1] = y at hd2 hinc
          have x0 : wr.cell? ⟨g1, i1 * 6, none⟩ = some (.string x.1) := hd1 0 _ rfl
          have y0 : wr.cell? ⟨g1, (i1 + 1) * 6, none⟩ = some (.string y.1) := hd2 0 _ rfl
          have hbl : Op.bytesLess x.1.toList y.1.toList = true := (less_lt _ _).2 hinc
          have Hl := Lib.hid hlen
          clear hd1 hd2 hinc ha2 hlen hl1 hl2 hb3r mC
          go_wp2_with fail
          go_quiet (fail)
          go_wp2_with fail
          go_roundg (m + 1 - (i1 + 1 + 1))
          case measure => omega
          case rel => exact ⟨i1 + 1 + 1, by omega, by omega, Nat.le_refl _, by go_num, HI.out.os, HI.out.tape, HI.out.output, HI.out.size, HI.out.block⟩
        · have hltz : ¬ (i : Int) < (m : Int) := by omega
          have mVr := (HI.out.block (w2.heap.size) (by omega)).trans ((block_old l03).trans H4.out.2.2.2.2.1)
          have lVr := (Array.getElem?_eq_some_iff.1 mVr).1
          have k0 : wr.cell? ⟨w2.heap.size, 0, none⟩ = some (.int .i64 v.kind) := by rw [blk_cell mVr]; rfl
          have k1 : wr.cell? ⟨w2.heap.size, 1, none⟩ = some (.int .i64 v.int) := by rw [blk_cell mVr]; rfl
          have k2 : wr.cell? ⟨w2.heap.size, 2, none⟩ = some (.string v.text) := by rw [blk_cell mVr]; rfl
          have k3 : wr.cell? ⟨w2.heap.size, 3, none⟩ = some (.slice px.a px.n px.c) := by rw [blk_cell mVr]; rfl
          have k4 : wr.cell? ⟨w2.heap.size, 4, none⟩ = some (.slice qa v.fields.length qc) := by rw [blk_cell mVr]; rfl
          have hb3r : Below w3.heap.size w3 wr := ((Below.refl w3.heap.size w3).alloc (Nat.le_refl _) (.cells #[.int .i64 v.kind, .int .i64 v.int, .string v.text, .slice pc.a pc.n pc.c, .slice qca m qcc] 28)).trans (HI.out.mono (Nat.le_succ _))
          obtain ⟨e1, e2, e3, -⟩ := canon_parts v
          have hokc := canon_ok v H2.out.2.2
          have hcc := canon_canon v H2.out.2.2
          have hcv := H4.out.2.1
          have hCan : ∀ W1, Below w3.heap.size w3 W1 → Calls Tryd.prog 18 #[.agg #[.int .i64 v.kind, .int .i64 v.int, .string v.text, .slice pc.a pc.n pc.c, .slice qca m qcc]] W1 fun e w' => ∃ p q : Sl, e = .returned (.agg #[.int .i64 v.kind, .int .i64 v.int, .string v.text, .slice p.a p.n p.c, .slice q.a q.n q.c]) ∧ HV (fun g => g < w'.heap.size) w' (canonV v) p q ∧ Below W1.heap.size W1 w' := fun W1 hb => by
            have h := Canon_any (canonV v) hokc _ W1 pc ⟨qca, m, qcc⟩ (fun g hg => Nat.lt_of_lt_of_le hg hb.size) (hcv.later hb)
            rw [e1, e2, e3, hcc] at h
            exact h.mono (fun e w' ⟨p, q, he, hB, hb'⟩ => ⟨p, q, he, hB.hv.map (fun k _ hl => ⟨hl, rfl⟩), hb'⟩)
          have hEq : ∀ W1 (p q : Sl), Below w3.heap.size w3 W1 → HV (fun g => g < W1.heap.size) W1 (canonV v) p q → Calls Tryd.prog 13 #[.agg #[.int .i64 v.kind, .int .i64 v.int, .string v.text, .slice p.a p.n p.c, .slice q.a q.n q.c], .agg #[.int .i64 v.kind, .int .i64 v.int, .string v.text, .slice pc.a pc.n pc.c, .slice qca m qcc]] W1 fun e w' => e = .returned (.bool true) ∧ Below W1.heap.size W1 w' := fun W1 p q hb hp => by
            have h := Equal_any (canonV v) (canonV v) (fun g => g < W1.heap.size) W1 p q pc ⟨qca, m, qcc⟩ (fun g hg => hg) hp (hcv.map (fun k hk hl => ⟨Nat.lt_of_lt_of_le hl hb.size, hb.block k hl⟩))
            rw [e1, e2, e3] at h
            refine h.mono ?_
            rintro e w' ⟨⟨z, rfl, hz⟩, hb'⟩
            obtain rfl : z = true := hz.2 rfl
            exact ⟨rfl, hb'⟩
          have HE := Lib.hid (And.intro hb3r (And.intro hCan (And.intro hEq hokc)))
          clear hb3r hCan hEq hokc hcc hcv e1 e2 e3
          go_wp2_with fail
          have hwm : ∀ o1 o2 w', Below ((wr.alloc o1).alloc o2).drew.heap.size ((wr.alloc o1).alloc o2).drew w' → Below wr.heap.size wr w' ∧ w'.heap[wr.heap.size]? = some o1 ∧ w'.heap[wr.heap.size + 1]? = some o2 := fun o1 o2 w' hb => by
            have h2 := block_new2 wr o1 o2
            refine ⟨(((Below.refl wr.heap.size wr).alloc (Nat.le_refl _) o1).alloc (by rw [size_alloc]; omega) o2).drew.trans (hb.mono (by simp only [World.drew, size_alloc]; omega)), (hb.block _ (by simp only [World.drew, size_alloc]; omega)).trans h2.1, (hb.block _ (by simp only [World.drew, size_alloc]; omega)).trans h2.2⟩
          have Hwm := Lib.hid hwm
          have hb3d : ∀ o1 o2, Below w3.heap.size w3 ((wr.alloc o1).alloc o2).drew := fun o1 o2 => HE.out.1.trans (((((Below.refl wr.heap.size wr).alloc (Nat.le_refl _) o1).alloc (by rw [size_alloc]; omega) o2).drew).mono HE.out.1.size)
          have Hbd := Lib.hid hb3d
          clear hwm hb3d
          go_region_law ((go_simp; go_wp2_with (first
            | (go_at_call 18; refine (HE.out.2.1 _ (Hbd.out _ _)).mono ?_; rintro e w5 ⟨p5, q5, rfl, hp5, hb5⟩; obtain ⟨hr5, m5, n5⟩ := Hwm.out _ _ _ hb5; have mC5 := (hr5.block (w3.heap.size) lC).trans mC; have d0 : w5.cell? ⟨w3.heap.size, 0, none⟩ = some (.int .i64 v.kind) := (by rw [blk_cell mC5]; rfl); have d1 : w5.cell? ⟨w3.heap.size, 1, none⟩ = some (.int .i64 v.int) := (by rw [blk_cell mC5]; rfl); have d2 : w5.cell? ⟨w3.heap.size, 2, none⟩ = some (.string v.text) := (by rw [blk_cell mC5]; rfl); have d3 : w5.cell? ⟨w3.heap.size, 3, none⟩ = some (.slice pc.a pc.n pc.c) := (by rw [blk_cell mC5]; rfl); have d4 : w5.cell? ⟨w3.heap.size, 4, none⟩ = some (.slice qca m qcc) := (by rw [blk_cell mC5]; rfl); have H5 := Lib.hid (And.intro hp5 (And.intro hr5 (And.intro m5 n5))); clear hp5 hb5 hr5 m5 n5 mC5)
            | (go_at_call 13; refine (HE.out.2.2.1 w5 p5 q5 (HE.out.1.trans (H5.out.2.1.mono HE.out.1.size)) H5.out.1).mono ?_; rintro e w6 ⟨rfl, hb6⟩; have H6 := Lib.hid hb6; clear hb6))))
          all_goals
            go_wp2_with fail
            have hb6r : Below wr.heap.size wr w6 := H5.out.2.1.trans (H6.out.mono H5.out.2.1.size)
            have mV6 := (hb6r.block (w2.heap.size) lVr).trans mVr
            have mW6 := (hb6r.block (w2.heap.size + 1) (Nat.lt_of_lt_of_le l13 HE.out.1.size)).trans ((HI.out.block (w2.heap.size + 1) (by omega)).trans ((block_old l13).trans H4.out.2.2.2.2.2))
            have mC6 := (hb6r.block (w3.heap.size) lC).trans mC
            have mM6 := (H6.out.block wr.heap.size (Array.getElem?_eq_some_iff.1 H5.out.2.2.1).1).trans H5.out.2.2.1
            have mR6 := (H6.out.block (wr.heap.size + 1) (Array.getElem?_eq_some_iff.1 H5.out.2.2.2).1).trans H5.out.2.2.2
            have hb36 : Below w3.heap.size w3 w6 := HE.out.1.trans (hb6r.mono HE.out.1.size)
            have hb06 : Below W.heap.size W w6 := H4.out.1.trans (hb36.mono H4.out.1.size)
            have hvV : HV (fun g => g < w6.heap.size) w6 v px ⟨qa, v.fields.length, qc⟩ := H4.out.2.2.1.map (fun k hk hl => ⟨Nat.lt_of_lt_of_le hl hb36.size, hb36.block k hl⟩)
            have hvW : HV (fun g => g < w6.heap.size) w6 (.mk v.kind v.int v.text v.list v.fields.reverse) px q := H4.out.2.2.2.1.map (fun k hk hl => ⟨Nat.lt_of_lt_of_le hl hb36.size, hb36.block k hl⟩)
            have hvC : HV (fun g => g < w6.heap.size) w6 (canonV v) pc ⟨qca, m, qcc⟩ := by
              exact H4.out.2.1.map (fun k hk hl => ⟨Nat.lt_of_lt_of_le hl hb36.size, hb36.block k hl⟩)
            have hvM : HV (fun g => g < w6.heap.size) w6 (.mk 4 0 ⟨#[]⟩ [v] []) ⟨some ⟨wr.heap.size + 1, 0, none⟩, 1, 1⟩ ⟨none, 0, 0⟩ := by
              refine ⟨⟨[cellsV v px ⟨qa, v.fields.length, qc⟩], ⟨rfl, fun xs hx => by rw [List.mem_singleton] at hx; subst hx; rfl, ⟨rfl, .inr ⟨wr.heap.size + 1, 1, _, rfl, Nat.zero_le _, mR6, Nat.le_refl _, by unfold maxLen; omega, rfl, rfl⟩⟩, fun g hg => by cases hg; exact (Array.getElem?_eq_some_iff.1 mR6).1⟩, fun i x y hx hy => ?_⟩, RowF.nil _ _⟩
              match i, hx, hy with
              | 0, hx, hy =>
                obtain rfl : v = x := by simpa [V.list] using hx
                obtain rfl : cellsV v px ⟨qa, v.fields.length, qc⟩ = y := by simpa using hy
                exact hvV.lies
              | i + 1, hx, _ => simp [V.list] at hx
            obtain ⟨e1, e2, e3, -⟩ := canon_parts v
            have hnd : (v.fields.map (·.1)).Nodup := ((okC_eq v).1 H2.out.2.2).2.2.1
            have hokW : okC (.mk v.kind v.int v.text v.list v.fields.reverse) := by
              obtain ⟨g1, g2, g3, g4, g5⟩ := (okC_eq v).1 H2.out.2.2
              refine (okC_eq _).2 ⟨g1, by show v.fields.reverse.length ≤ _; simpa using g2, ?_, g4, fun x hx => g5 x (List.mem_reverse.1 hx)⟩
              exact ((List.reverse_perm v.fields).map (·.1)).nodup_iff.2 g3
            have hokM : okC (.mk 4 0 ⟨#[]⟩ [v] []) := (okC_eq _).2 ⟨by show 1 ≤ _; omega, by show 0 ≤ _; omega, List.nodup_nil, fun x hx => by rw [show x = v from List.mem_singleton.1 hx]; exact H2.out.2.2, fun x hx => by cases hx⟩
            have hs : ∀ (a b : V) (r t r2 t2 : Sl) (z : Bool), okC a → okC b → HV (fun g => g < w6.heap.size) w6 a r t → HV (fun g => g < w6.heap.size) w6 b r2 t2 → (z = true ↔ canonV a = canonV b) → ∀ W1, Below w6.heap.size w6 W1 →
                Calls Tryd.prog 36 #[.agg #[.int .i64 a.kind, .int .i64 a.int, .string a.text, .slice r.a r.n r.c, .slice t.a t.n t.c], .agg #[.int .i64 b.kind, .int .i64 b.int, .string b.text, .slice r2.a r2.n r2.c, .slice t2.a t2.n t2.c]] W1 fun e w' => e = .returned (.bool z) ∧ Below W1.heap.size W1 w' :=
              fun a b r t r2 t2 z ha hb h1 h2 hz W1 hw => by
                refine (Same_any a b ha hb _ W1 r t r2 t2 (fun g hg => Nat.lt_of_lt_of_le hg hw.size) (h1.later hw) (h2.later hw)).mono ?_
                rintro e w' ⟨⟨y, rfl, hy⟩, hb'⟩
                obtain rfl : y = z := by
                  rw [Bool.eq_iff_iff]; exact hy.trans hz.symm
                exact ⟨rfl, hb'⟩
            have hcr : canonV (.mk v.kind v.int v.text v.list v.fields.reverse) = canonV v := by
              have h := canon_perm v.kind v.int v.text v.list (List.reverse_perm v.fields) hnd
              rwa [v.eta] at h
            have hs1 := hs v _ px ⟨qa, v.fields.length, qc⟩ px q true H2.out.2.2 hokW hvV hvW ⟨fun _ => hcr.symm, fun _ => rfl⟩
            have hs2 := hs (canonV v) v pc ⟨qca, m, qcc⟩ px ⟨qa, v.fields.length, qc⟩ true HE.out.2.2.2 H2.out.2.2 hvC hvV ⟨fun _ => canon_canon v H2.out.2.2, fun _ => rfl⟩
            have hs3 := hs v _ px ⟨qa, v.fields.length, qc⟩ ⟨some ⟨wr.heap.size + 1, 0, none⟩, 1, 1⟩ ⟨none, 0, 0⟩ false H2.out.2.2 hokM hvV hvM ⟨(fun h => by cases h), fun h => absurd h (canon_more v)⟩
            have hd1 := fun W1 (hw : Below w6.heap.size w6 W1) => Depth_any (canonV v) (by rw [canon_depth]; have := Hd.out.1; omega) _ W1 pc ⟨qca, m, qcc⟩ (fun g hg => Nat.lt_of_lt_of_le hg hw.size) (hvC.later hw)
            have hd2 := fun W1 (hw : Below w6.heap.size w6 W1) => Depth_any v (by have := Hd.out.1; omega) _ W1 px ⟨qa, v.fields.length, qc⟩ (fun g hg => Nat.lt_of_lt_of_le hg hw.size) (hvV.later hw)
            have hc1 := fun W1 (hw : Below w6.heap.size w6 W1) => Count_any (canonV v) (by rw [canon_depth]; have := Hd.out.1; omega) (by rw [canon_count]; have := Hd.out.2; omega) _ W1 pc ⟨qca, m, qcc⟩ (fun g hg => Nat.lt_of_lt_of_le hg hw.size) (hvC.later hw)
            have hc2 := fun W1 (hw : Below w6.heap.size w6 W1) => Count_any v (by have := Hd.out.1; omega) (by have := Hd.out.2; omega) _ W1 px ⟨qa, v.fields.length, qc⟩ (fun g hg => Nat.lt_of_lt_of_le hg hw.size) (hvV.later hw)
            rw [canon_depth] at hd1
            rw [canon_count] at hc1
            rw [e1, e2, e3] at hs2
            rw [e1, e2, e3] at hd1 hc1
            have HS := Lib.hid (And.intro hs1 (And.intro hs2 (And.intro hs3 (And.intro hd1 (And.intro hd2 (And.intro hc1 hc2))))))
            have HB6 := Lib.hid hb06
            have cV0 := cell_below (a := ⟨w2.heap.size, 0, none⟩) (v := .int .i64 v.kind) (Array.getElem?_eq_some_iff.1 mV6).1 (by rw [blk_cell mV6]; rfl)
            have cV1 := cell_below (a := ⟨w2.heap.size, 1, none⟩) (v := .int .i64 v.int) (Array.getElem?_eq_some_iff.1 mV6).1 (by rw [blk_cell mV6]; rfl)
            have cV2 := cell_below (a := ⟨w2.heap.size, 2, none⟩) (v := .string v.text) (Array.getElem?_eq_some_iff.1 mV6).1 (by rw [blk_cell mV6]; rfl)
            have cV3 := cell_below (a := ⟨w2.heap.size, 3, none⟩) (v := .slice px.a px.n px.c) (Array.getElem?_eq_some_iff.1 mV6).1 (by rw [blk_cell mV6]; rfl)
            have cV4 := cell_below (a := ⟨w2.heap.size, 4, none⟩) (v := .slice qa v.fields.length qc) (Array.getElem?_eq_some_iff.1 mV6).1 (by rw [blk_cell mV6]; rfl)
            have cW0 := cell_below (a := ⟨w2.heap.size + 1, 0, none⟩) (v := .int .i64 v.kind) (Array.getElem?_eq_some_iff.1 mW6).1 (by rw [blk_cell mW6]; rfl)
            have cW1 := cell_below (a := ⟨w2.heap.size + 1, 1, none⟩) (v := .int .i64 v.int) (Array.getElem?_eq_some_iff.1 mW6).1 (by rw [blk_cell mW6]; rfl)
            have cW2 := cell_below (a := ⟨w2.heap.size + 1, 2, none⟩) (v := .string v.text) (Array.getElem?_eq_some_iff.1 mW6).1 (by rw [blk_cell mW6]; rfl)
            have cW3 := cell_below (a := ⟨w2.heap.size + 1, 3, none⟩) (v := .slice px.a px.n px.c) (Array.getElem?_eq_some_iff.1 mW6).1 (by rw [blk_cell mW6]; rfl)
            have cW4 := cell_below (a := ⟨w2.heap.size + 1, 4, none⟩) (v := .slice q.a q.n q.c) (Array.getElem?_eq_some_iff.1 mW6).1 (by rw [blk_cell mW6]; rfl)
            have cC0 := cell_below (a := ⟨w3.heap.size, 0, none⟩) (v := .int .i64 v.kind) (Array.getElem?_eq_some_iff.1 mC6).1 (by rw [blk_cell mC6]; rfl)
            have cC1 := cell_below (a := ⟨w3.heap.size, 1, none⟩) (v := .int .i64 v.int) (Array.getElem?_eq_some_iff.1 mC6).1 (by rw [blk_cell mC6]; rfl)
            have cC2 := cell_below (a := ⟨w3.heap.size, 2, none⟩) (v := .string v.text) (Array.getElem?_eq_some_iff.1 mC6).1 (by rw [blk_cell mC6]; rfl)
            have cC3 := cell_below (a := ⟨w3.heap.size, 3, none⟩) (v := .slice pc.a pc.n pc.c) (Array.getElem?_eq_some_iff.1 mC6).1 (by rw [blk_cell mC6]; rfl)
            have cC4 := cell_below (a := ⟨w3.heap.size, 4, none⟩) (v := .slice qca m qcc) (Array.getElem?_eq_some_iff.1 mC6).1 (by rw [blk_cell mC6]; rfl)
            have cM0 := cell_below (a := ⟨wr.heap.size, 0, none⟩) (v := .int .i64 4) (Array.getElem?_eq_some_iff.1 mM6).1 (by rw [blk_cell mM6]; rfl)
            have cM1 := cell_below (a := ⟨wr.heap.size, 1, none⟩) (v := .int .i64 0) (Array.getElem?_eq_some_iff.1 mM6).1 (by rw [blk_cell mM6]; rfl)
            have cM2 := cell_below (a := ⟨wr.heap.size, 2, none⟩) (v := .string ⟨#[]⟩) (Array.getElem?_eq_some_iff.1 mM6).1 (by rw [blk_cell mM6]; rfl)
            have cM3 := cell_below (a := ⟨wr.heap.size, 3, none⟩) (v := .slice (some ⟨wr.heap.size + 1, 0, none⟩) 1 1) (Array.getElem?_eq_some_iff.1 mM6).1 (by rw [blk_cell mM6]; rfl)
            have cM4 := cell_below (a := ⟨wr.heap.size, 4, none⟩) (v := .slice none 0 0) (Array.getElem?_eq_some_iff.1 mM6).1 (by rw [blk_cell mM6]; rfl)
            have mixed := mixed
            clear hs1 hs2 hs3 hd1 hd2 hc1 hc2 hs hcr hokM hokW hnd e1 e2 e3 hvV hvW hvC hvM hb06 hb36 mV6 mW6 mC6 mM6 mR6 hb6r mC mVr
            refine wp_region_quiet_below (by assumption) (by kernel_rfl) ?_
            repeat (quiet_step (first
              | (go_at_call 36; (with_reducible show Calls Tryd.prog 36 #[.agg #[.int .i64 v.kind, .int .i64 v.int, .string v.text, .slice px.a px.n px.c, .slice qa v.fields.length qc], .agg #[.int .i64 v.kind, .int .i64 v.int, .string v.text, .slice px.a px.n px.c, .slice q.a q.n q.c]] _ _); exact calls_below (HS.out.1 _ (below_of_grown _ _)))
              | (go_at_call 36; (with_reducible show Calls Tryd.prog 36 #[.agg #[.int .i64 v.kind, .int .i64 v.int, .string v.text, .slice pc.a pc.n pc.c, .slice qca m qcc], .agg #[.int .i64 v.kind, .int .i64 v.int, .string v.text, .slice px.a px.n px.c, .slice qa v.fields.length qc]] _ _); exact calls_below (HS.out.2.1 _ (below_of_grown _ _)))
              | (go_at_call 36; (with_reducible show Calls Tryd.prog 36 #[.agg #[.int .i64 v.kind, .int .i64 v.int, .string v.text, .slice px.a px.n px.c, .slice qa v.fields.length qc], .agg #[.int .i64 4, .int .i64 0, .string ⟨#[]⟩, .slice (some ⟨wr.heap.size + 1, 0, none⟩) 1 1, .slice none 0 0]] _ _); exact calls_below (HS.out.2.2.1 _ (below_of_grown _ _)))
              | (go_at_call 22; (with_reducible show Calls Tryd.prog 22 #[.agg #[.int .i64 v.kind, .int .i64 v.int, .string v.text, .slice pc.a pc.n pc.c, .slice qca m qcc]] _ _); exact calls_below (HS.out.2.2.2.1 _ (below_of_grown _ _)))
              | (go_at_call 22; (with_reducible show Calls Tryd.prog 22 #[.agg #[.int .i64 v.kind, .int .i64 v.int, .string v.text, .slice px.a px.n px.c, .slice qa v.fields.length qc]] _ _); exact calls_below (HS.out.2.2.2.2.1 _ (below_of_grown _ _)))
              | (go_at_call 24; (with_reducible show Calls Tryd.prog 24 #[.agg #[.int .i64 v.kind, .int .i64 v.int, .string v.text, .slice pc.a pc.n pc.c, .slice qca m qcc]] _ _); exact calls_below (HS.out.2.2.2.2.2.1 _ (below_of_grown _ _)))
              | (go_at_call 24; (with_reducible show Calls Tryd.prog 24 #[.agg #[.int .i64 v.kind, .int .i64 v.int, .string v.text, .slice px.a px.n px.c, .slice qa v.fields.length qc]] _ _); exact calls_below (HS.out.2.2.2.2.2.2 _ (below_of_grown _ _)))))
            refine wpQuiet_nil ?_
            intro _ hw'
            obtain ⟨⟨nq, osq⟩, hw''⟩ := hw'
            subst hw''
            go_wp2_with fail
            go_ret
            exact ⟨rfl, HB6.out.trans ((below_of_grown nq osq).mono HB6.out.size)⟩
end Go.Proofs.YtdggehikimnemaaDoor.tre
